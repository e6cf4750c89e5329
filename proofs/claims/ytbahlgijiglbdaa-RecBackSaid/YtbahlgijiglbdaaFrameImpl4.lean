/-
  Contracts of package frame's Decode, of any bytes.
-/
import Derived.Test.YtbahlgijiglbdaaFrameImpl3
namespace Go.Proofs.Ytbahlgijiglbdaa.frame
open Go.RowKit Go.Proofs.Ytbahlgijiglbdaa
set_option linter.unusedVariables false

theorem decode_head (b off cap v : Nat) (bs : List Nat) (w : World) (hx : Bys w w.heap.size (some ⟨b, off, none⟩) bs) (hn : bs.length = 72) (hc : 72 ≤ cap) (hcm : cap ≤ 9223372036854775807) (h0 : num (seg bs 0 4) = v) (hv : v ≠ 72) :
    Calls Try.prog 18 #[.slice (some ⟨b, off, none⟩) 72 cap] w (Decoded (dec bs) w) := by
  have hd : dec bs = (2, zero) := by unfold dec; rw [if_pos (.inr (by omega))]
  rw [hd]
  have HN0 : Hid (∀ W c, Below w.heap.size w W → Calls Try.prog 27 #[.slice (some ⟨b, off, none⟩) 4 c] W fun e w' => e = .returned (.int .u64 (v : Int)) ∧ W = w') := Lib.hid (fun W c hb => number_seg hx hn 0 4 v (by omega) (by omega) h0 off c rfl W hb)
  have ht : ((v : Int) != 72) = true := by simp; omega
  clear hd hn h0 hv hx
  go_enter Try.func18, Try.ntmps18
  go_wp2_with ((with_reducible refine Calls.mono (HN0.out _ _ ((Below.refl _ _).alloc (Nat.le_refl _) _)) ?_); rintro e1 w1 ⟨rfl, rfl⟩)
  exact bodyPost_ret (v := .tuple #[.agg #[.int .i64 0, .int .i64 0, .int .i64 0, .int .i64 0, .int .i64 0, .int .i64 0, .int .i64 0, .int .i64 0, .int .i64 0], .int .i64 2]) (by simp [results, Try.results18, go_sem]) rfl ⟨rfl, (Below.refl _ _).alloc (Nat.le_refl _) _⟩

theorem decode_any (A : Option Addr) (n cap : Nat) (bs : List Nat) (w : World) (hx : Bys w w.heap.size A bs) (hn : bs.length = n) (hc : n ≤ cap) (hcm : cap ≤ 9223372036854775807) :
    Calls Try.prog 18 #[.slice A n cap] w (Decoded (dec bs) w) := by
  by_cases h : n = 72
  · subst h
    obtain ⟨b, off, c, rfl, _⟩ := hx.at_ (j := 0) (by omega)
    by_cases h0 : num (seg bs 0 4) = 72
    · exact decode_72 b off cap bs w hx hn hc hcm h0
    · exact decode_head b off cap _ bs w hx hn hc hcm rfl h0
  · exact decode_short A n cap bs w hn h
theorem decode_is (A : Option Addr) (n cap B : Nat) (bs : List Nat) (d : Int) (f : Fr) (w : World) (hx : Bys w B A bs) (hB : B ≤ w.heap.size) (hn : bs.length = n) (hc : n ≤ cap) (hcm : cap ≤ 9223372036854775807) (h : dec bs = (d, f)) :
    Calls Try.prog 18 #[.slice A n cap] w fun e w' => e = .returned (.tuple #[.agg (fc f), .int .i64 d]) ∧ Below w.heap.size w w' := by
  have := decode_any A n cap bs w (hx.more hB) hn hc hcm
  rw [h] at this
  exact this

theorem encode_yes_of {e l k b0 b1 b2 b3 b4 b5 : Int} {f : Fr} (h : (⟨e, l, k, b0, b1, b2, b3, b4, b5⟩ : Fr) = f) (hf : f.fine) (hr : right f = true) (W : World) : Calls Try.prog 17 #[.agg #[.int .i64 e, .int .i64 l, .int .i64 k, .int .i64 b0, .int .i64 b1, .int .i64 b2, .int .i64 b3, .int .i64 b4, .int .i64 b5]] W (Encoded f W) := by
  subst h; exact encode_yes ⟨e, l, k, b0, b1, b2, b3, b4, b5⟩ hf W hr
theorem encode_no_of {e l k b0 b1 b2 b3 b4 b5 : Int} {f : Fr} (h : (⟨e, l, k, b0, b1, b2, b3, b4, b5⟩ : Fr) = f) (hr : right f = false) (W : World) : Calls Try.prog 17 #[.agg #[.int .i64 e, .int .i64 l, .int .i64 k, .int .i64 b0, .int .i64 b1, .int .i64 b2, .int .i64 b3, .int .i64 b4, .int .i64 b5]] W fun e w' => e = .returned (.tuple #[.slice none 0 0, .int .i64 1]) ∧ Below W.heap.size W w' := by
  subst h; exact encode_no ⟨e, l, k, b0, b1, b2, b3, b4, b5⟩ W hr
theorem right_of {e l k b0 b1 b2 b3 b4 b5 : Int} {f : Fr} {r : Bool} (h : (⟨e, l, k, b0, b1, b2, b3, b4, b5⟩ : Fr) = f) (hr : right f = r) (W : World) : Calls Try.prog 23 #[.agg #[.int .i64 e, .int .i64 l, .int .i64 k, .int .i64 b0, .int .i64 b1, .int .i64 b2, .int .i64 b3, .int .i64 b4, .int .i64 b5]] W fun e w' => e = .returned (.bool r) ∧ Below W.heap.size W w' := by
  subst h; exact right_is ⟨e, l, k, b0, b1, b2, b3, b4, b5⟩ r W hr
theorem decode_of {A : Option Addr} {n cap B : Nat} {bs : List Nat} {d : Int} {e l k b0 b1 b2 b3 b4 b5 : Int} (W : World) (hx : Bys W B A bs) (hB : B ≤ W.heap.size) (hn : bs.length = n) (hc : n ≤ cap) (hcm : cap ≤ 9223372036854775807) (h : dec bs = (d, ⟨e, l, k, b0, b1, b2, b3, b4, b5⟩)) :
    Calls Try.prog 18 #[.slice A n cap] W fun e' w' => e' = .returned (.tuple #[.agg #[.int .i64 e, .int .i64 l, .int .i64 k, .int .i64 b0, .int .i64 b1, .int .i64 b2, .int .i64 b3, .int .i64 b4, .int .i64 b5], .int .i64 d]) ∧ Below W.heap.size W w' := decode_is A n cap B bs d ⟨e, l, k, b0, b1, b2, b3, b4, b5⟩ W hx hB hn hc hcm h
theorem eq_of {e l k b0 b1 b2 b3 b4 b5 e' l' k' b0' b1' b2' b3' b4' b5' : Int} {f g : Fr} {r : Bool} (h : (⟨e, l, k, b0, b1, b2, b3, b4, b5⟩ : Fr) = f) (h' : (⟨e', l', k', b0', b1', b2', b3', b4', b5'⟩ : Fr) = g) (hf : f.fine) (hg : g.fine) (hr : decide (f = g) = r) (W : World) :
    (Op.equalIn 10000 33 (.agg #[.int .i64 e, .int .i64 l, .int .i64 k, .int .i64 b0, .int .i64 b1, .int .i64 b2, .int .i64 b3, .int .i64 b4, .int .i64 b5]) (.agg #[.int .i64 e', .int .i64 l', .int .i64 k', .int .i64 b0', .int .i64 b1', .int .i64 b2', .int .i64 b3', .int .i64 b4', .int .i64 b5'])).run Try.prog W = .ok r W := by
  subst h h'
  rw [← hr]
  exact run_eq9 ⟨e, l, k, b0, b1, b2, b3, b4, b5⟩ ⟨e', l', k', b0', b1', b2', b3', b4', b5'⟩ hf hg W

end Go.Proofs.Ytbahlgijiglbdaa.frame
