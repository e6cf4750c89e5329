/-
  Contract of layer 3's statements' own small function: begins.
-/
import Derived.Test.YtaognhkjojkbbaaDiskLaw
namespace Go.Proofs.Ytaognhkjojkbbaa.disk
open Go.RowKit
set_option linter.unusedVariables false
set_option linter.unusedSimpArgs false

theorem bys_pre {w : World} {B : Nat} {A : Option Addr} {xs bs : List Nat} (h : Bys w B A xs) (hp : bs <+: xs) : Bys w B A bs := by
  obtain ⟨cs, rfl⟩ := hp
  obtain ⟨h1, h2⟩ := h
  have e : toI (bs ++ cs) = toI bs ++ toI cs := toI_append _ _
  refine ⟨fun x hx => h1 x (by rw [e]; exact List.mem_append_left _ hx), fun hn => ?_⟩
  obtain ⟨b, off, e1, e2, e3⟩ := h2 (by rw [e, List.length_append]; omega)
  refine ⟨b, off, e1, e2, fun j hj => ?_⟩
  rw [e3 j (by rw [e, List.length_append]; omega), e]
  simp only [List.getD_eq_getElem?_getD]
  rw [List.getElem?_append_left hj]

theorem begins_yes (A1 A2 : Option Addr) (n1 c1 n2 c2 B : Nat) (xs bs : List Nat) (w : World) (ha : Bys w B A1 xs) (hb : Bys w B A2 bs) (hn1 : xs.length = n1) (hn2 : bs.length = n2) (hc : n1 ≤ c1) (hm : c1 ≤ maxLen) (hp : bs <+: xs) :
    Calls Try.prog 30 #[.slice A1 n1 c1, .slice A2 n2 c2] w fun e w' => e = .returned (.bool true) ∧ ∃ m, w' = w.drewN m := by
  have hle : n2 ≤ n1 := by rw [← hn1, ← hn2]; exact hp.length_le
  have hcv1 : (convert 25 9 (.slice A1 n2 c1)).run Try.prog w.drew = .ok (.string (strB bs)) w.drew :=
    run_bys_string (B := B) ((bys_pre ha hp).drewN 1) hn2 25 5 9 Try.underlying25 Try.underlying5 Try.underlying9
  have hcv2 : (convert 25 9 (.slice A2 n2 c2)).run Try.prog w.drew = .ok (.string (strB bs)) w.drew :=
    run_bys_string (B := B) (hb.drewN 1) hn2 25 5 9 Try.underlying25 Try.underlying5 Try.underlying9
  have hlei : (n2 : Int) ≤ (n1 : Int) := by omega
  clear ha hb hn1 hn2 hp
  unfold maxLen at hm
  go_enter Try.func30, Try.ntmps30
  go_wp2
  go_region
  all_goals
    go_wp2
    go_ret
    exact ⟨rfl, 1, rfl⟩

end Go.Proofs.Ytaognhkjojkbbaa.disk
