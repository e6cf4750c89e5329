/-
  Contract of layer 2's fixed answer.
-/
import Derived.Test.YtlbdgamcofjblaaCrcImpl
import Derived.Lib.SmallJoins
namespace Go.Proofs.Ytlbdgamcofjblaa.crc
open Go.RowKit
set_option linter.unusedVariables false

theorem Bys.one {w : World} {b c : Nat} (h : w.cell? ⟨b, 0, none⟩ = some (.int .u8 (c : Int))) (hc : c < 256) : Bys w (b + 1) (some ⟨b, 0, none⟩) [c] :=
  ⟨by intro x hx; simp [toI] at hx; subst hx; exact (wf_u8 c).2 hc, fun _ => ⟨b, 0, rfl, Nat.lt_succ_self _, fun j hj => by
    have : j = 0 := by simp [toI] at hj; omega
    subst this; exact h⟩⟩
theorem Bys.two {w : World} {b c d : Nat} (h : w.cell? ⟨b, 0, none⟩ = some (.int .u8 (c : Int))) (g : w.cell? ⟨b, 1, none⟩ = some (.int .u8 (d : Int))) (hc : c < 256) (hd : d < 256) : Bys w (b + 1) (some ⟨b, 0, none⟩) [c, d] :=
  ⟨by intro x hx; simp [toI] at hx; rcases hx with rfl | rfl; (· exact (wf_u8 _).2 hc); (· exact (wf_u8 _).2 hd), fun _ => ⟨b, 0, rfl, Nat.lt_succ_self _, fun j hj => by
    rcases (show j = 0 ∨ j = 1 by simp [toI] at hj; omega) with rfl | rfl
    (· exact h)
    (· exact g)⟩⟩

theorem sum_one (w : World) (b c v : Nat) (hc : c < 256) (h : w.cell? ⟨b, 0, none⟩ = some (.int .u8 (c : Int))) (hv : more 0 [c] = v) :
    Calls Try.prog 8 #[.slice (some ⟨b, 0, none⟩) 1 1] w fun e w' => e = .returned (.int .u32 (v : Int)) ∧ w = w' := by
  rw [← hv]; exact sum_any _ 1 1 (b + 1) [c] w (Bys.one h hc) rfl (by omega)
theorem sum_two (w : World) (b c d v : Nat) (hc : c < 256) (hd : d < 256) (h : w.cell? ⟨b, 0, none⟩ = some (.int .u8 (c : Int))) (g : w.cell? ⟨b, 1, none⟩ = some (.int .u8 (d : Int))) (hv : more 0 [c, d] = v) :
    Calls Try.prog 8 #[.slice (some ⟨b, 0, none⟩) 2 2] w fun e w' => e = .returned (.int .u32 (v : Int)) ∧ w = w' := by
  rw [← hv]; exact sum_any _ 2 2 (b + 1) [c, d] w (Bys.two h g hc hd) rfl (by omega)
theorem more_one (w : World) (s b c v : Nat) (hs : s < 4294967296) (hc : c < 256) (h : w.cell? ⟨b, 0, none⟩ = some (.int .u8 (c : Int))) (hv : more s [c] = v) :
    Calls Try.prog 10 #[.int .u32 (s : Int), .slice (some ⟨b, 0, none⟩) 1 1] w fun e w' => e = .returned (.int .u32 (v : Int)) ∧ w = w' := by
  rw [← hv]; exact more_any s _ 1 1 (b + 1) [c] w hs (Bys.one h hc) rfl (by omega)
theorem sum_none (w : World) : Calls Try.prog 8 #[.slice none 0 0] w fun e w' => e = .returned (.int .u32 0) ∧ w = w' :=
  sum_any none 0 0 0 [] w (Bys.nil _ _ _) rfl (by omega)

theorem awake_any (w : World) : Calls Try.prog 7 #[] w fun e w' => e = .returned (.bool true) ∧ Below w.heap.size w w' := by
  obtain ⟨sa, HA⟩ : ∃ v, Hid (more 0 [97] = v) := ⟨_, Lib.hid rfl⟩
  obtain ⟨sb, HB⟩ : ∃ v, Hid (more 0 [98] = v) := ⟨_, Lib.hid rfl⟩
  have la : sa < 4294967296 := by rw [← HA.out]; decide +kernel
  have HAB : Hid (more 0 [97, 98] = more sa [98]) := Lib.hid (by rw [← HA.out, ← more_append]; rfl)
  obtain ⟨sc, HC⟩ : ∃ v, Hid (more sa [98] = v) := ⟨_, Lib.hid rfl⟩
  have hne : ((sa : Int) != (sb : Int)) = true := by
    have : sa ≠ sb := by rw [← HA.out, ← HB.out]; decide +kernel
    simp only [bne_iff_ne, ne_eq]; omega
  have hcv : ∀ (W : World) (C : Array Value) (n c g : Nat), g = W.heap.size → (convert 23 23 (.slice (some ⟨g, 0, none⟩) n c)).run Try.prog (W.alloc (.cells C 5)) = .ok (.slice (some ⟨g, 0, none⟩) n c) (W.alloc (.cells C 5 (C.size, C.size + 1))) :=
    fun W C n c g hg => Joins.run_convert_bytes_const_at W 23 5 C n c g hg Try.underlying23 Try.underlying5
  go_enter Try.func7, Try.ntmps7
  go_wp2_with (first
    | ((with_reducible refine (sum_one _ _ 97 sa (by omega) ?_ HA.out).mono ?_); (· rw [Joins.cell_alloc_mark_at _ _ _ _ _ _ (by simp)]; rfl); rintro e w' ⟨rfl, rfl⟩)
    | ((with_reducible refine (sum_one _ _ 98 sb (by omega) ?_ HB.out).mono ?_); (· rw [Joins.cell_alloc_mark_at _ _ _ _ _ _ (by simp)]; rfl); rintro e w' ⟨rfl, rfl⟩)
    | ((with_reducible refine (more_one _ sa _ 98 sc la (by omega) ?_ HC.out).mono ?_); (· rw [Joins.cell_alloc_mark_at _ _ _ _ _ _ (by simp)]; rfl); rintro e w' ⟨rfl, rfl⟩)
    | ((with_reducible refine (sum_two _ _ 97 98 sc (by omega) (by omega) ?_ ?_ (HAB.out.trans HC.out)).mono ?_); (· rw [Joins.cell_alloc_mark_at _ _ _ _ _ _ (by simp)]; rfl); (· rw [Joins.cell_alloc_mark_at _ _ _ _ _ _ (by simp)]; rfl); rintro e w' ⟨rfl, rfl⟩)
    | ((with_reducible refine (sum_none _).mono ?_); rintro e w' ⟨rfl, rfl⟩))
  go_ret
  exact ⟨rfl, by repeat (first | exact Below.refl _ _ | refine Below.alloc ?_ (by first | (simp; done) | (simp; omega)) _)⟩

end Go.Proofs.Ytlbdgamcofjblaa.crc
