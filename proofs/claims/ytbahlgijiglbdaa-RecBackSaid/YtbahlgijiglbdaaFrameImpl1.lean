/-
  Contracts of package frame: which frame is right, what bytes have, the sum's bytes.
-/
import Derived.Test.YtbahlgijiglbdaaRows
import Derived.Test.YtbahlgijiglbdaaCrcImpl
import Derived.Test.YtbahlgijiglbdaaFrameMath
import Derived.Test.YtbahlgijiglbdaaElems
namespace Go.Proofs.Ytbahlgijiglbdaa.frame
open Go.RowKit Go.Proofs.Ytbahlgijiglbdaa
set_option linter.unusedVariables false

theorem retB {a b : Bool} (h : a = b) : Ending.returned (.bool a) = .returned (.bool b) := by rw [h]
theorem ret64 {a b : Nat} (h : a = b) : Ending.returned (.int .u64 (a : Int)) = .returned (.int .u64 (b : Int)) := by rw [h]
theorem retS {A : Option Addr} {n m c : Nat} (h : n = m) : Ending.returned (.slice A n c) = .returned (.slice A m c) := by rw [h]
theorem reti {a b : Int} (h : a = b) : Ending.returned (.int .i64 a) = .returned (.int .i64 b) := by rw [h]
/-- a frame as the program holds it. -/
def fc (f : Fr) : Array Value := #[.int .i64 f.e, .int .i64 f.l, .int .i64 f.k, .int .i64 f.b0, .int .i64 f.b1, .int .i64 f.b2, .int .i64 f.b3, .int .i64 f.b4, .int .i64 f.b5]

theorem or64 (r c : Nat) (hr : r < 72057594037927936) (hc : c < 256) : bits .or .u64 ((r : Int) * 256) (c : Int) = ((r * 256 + c : Nat) : Int) := by
  have h := u64_or_nat (r * 256) c (by omega) (by omega)
  have e : r * 256 ||| c = r * 256 + c := by
    have := Nat.two_pow_add_eq_or_of_lt (i := 8) (a := r) (b := c) (by simpa using hc)
    rw [show 2 ^ 8 * r = r * 256 by omega] at this
    exact this.symm
  rw [e] at h
  simpa using h

theorem right_any (f : Fr) (w : World) : Calls Try.prog 23 #[.agg (fc f)] w fun e w' => e = .returned (.bool (right f)) ∧ Below w.heap.size w w' := by
  obtain ⟨e, l, k, b0, b1, b2, b3, b4, b5⟩ := f
  have hc : ∃ r, Hid (right ⟨e, l, k, b0, b1, b2, b3, b4, b5⟩ = r) ∧ ((e < 1 ∧ r = false) ∨ (1 ≤ e ∧ 1000000 < e ∧ r = false) ∨ (1 ≤ e ∧ e ≤ 1000000 ∧ l < 1 ∧ r = false) ∨ (1 ≤ e ∧ e ≤ 1000000 ∧ 1 ≤ l ∧ 1000000000 < l ∧ r = false) ∨
      (1 ≤ e ∧ e ≤ 1000000 ∧ 1 ≤ l ∧ l ≤ 1000000000 ∧ k < 1 ∧ r = false) ∨ (1 ≤ e ∧ e ≤ 1000000 ∧ 1 ≤ l ∧ l ≤ 1000000000 ∧ 1 ≤ k ∧ 6 < k ∧ r = false) ∨ (1 ≤ e ∧ e ≤ 1000000 ∧ 1 ≤ l ∧ l ≤ 1000000000 ∧ 1 ≤ k ∧ k ≤ 6 ∧ r = true)) := by
    refine ⟨_, Lib.hid rfl, ?_⟩
    simp only [right, decide_eq_false_iff_not, decide_eq_true_eq]
    omega
  obtain ⟨r, HR, hc⟩ := hc
  show Calls Try.prog 23 #[.agg #[.int .i64 e, .int .i64 l, .int .i64 k, .int .i64 b0, .int .i64 b1, .int .i64 b2, .int .i64 b3, .int .i64 b4, .int .i64 b5]] w _
  rw [HR.out]
  rcases hc with ⟨h1, rfl⟩ | ⟨h1, h2, rfl⟩ | ⟨h1, h2, h3, rfl⟩ | ⟨h1, h2, h3, h4, rfl⟩ | ⟨h1, h2, h3, h4, h5, rfl⟩ | ⟨h1, h2, h3, h4, h5, h6, rfl⟩ | ⟨h1, h2, h3, h4, h5, h6, rfl⟩
  all_goals
    clear HR
    go_enter Try.func23, Try.ntmps23
    go_wp2
    go_ret
    exact ⟨retB (by first | rfl | (simp; omega)), (Below.refl _ _).alloc (Nat.le_refl _) _⟩

theorem number_any (A : Option Addr) (n cap B : Nat) (bs : List Nat) (w : World) (hx : Bys w B A bs) (hn : bs.length = n) (h8 : n ≤ 8) :
    Calls Try.prog 27 #[.slice A n cap] w fun e w' => e = .returned (.int .u64 ((num bs : Nat) : Int)) ∧ w = w' := by
  have HN : Hid (bs.length = n) := Lib.hid hn
  have hlt := hx.lt
  clear hn
  go_enter Try.func27, Try.ntmps27
  go_wp2
  go_loop [3, 8] (fun t i => ∃ k r : Nat, k ≤ n ∧ i = .int .i64 k ∧ t = .int .u64 (r : Int) ∧ Hid (num (bs.take k) = r)) (fun _ i => n - (intOf i).toNat)
  case atStart => exact ⟨0, 0, Nat.zero_le _, rfl, rfl, Lib.hid (by simp [num])⟩
  case round =>
    obtain ⟨k, r, hk, rfl, rfl, HT⟩ := hrel
    by_cases hlt' : k < n
    · obtain ⟨b, off, c, rfl, hb, HX, hc, hcl⟩ := hx.at_ (j := k) (by rw [HN.out]; exact hlt')
      have hr : r < 72057594037927936 := by
        have h1 := num_lt (bs.take k) (fun b hb => hlt b (List.mem_of_mem_take hb))
        have h2 : (256 : Nat) ^ (bs.take k).length ≤ 256 ^ 7 := Nat.pow_le_pow_right (by omega) (by rw [List.length_take]; omega)
        have h3 : (256 : Nat) ^ 7 = 72057594037927936 := by decide
        rw [HT.out] at h1
        omega
      have e1 := or64 r c hr hcl
      have HS : Hid (num (bs.take (k + 1)) = r * 256 + c) := Lib.hid (by
        rw [List.take_add_one, HX.out]
        simp only [Option.toList_some]
        rw [num_snoc, HT.out])
      clear hlt
      go_wp2
      go_round
      case rel => exact ⟨k + 1, _, by omega, by go_num, rfl, HS⟩
      case measure => first | (simp [intOf]; done) | (simp [intOf]; omega)
    · have HE : Hid (num bs = r) := Lib.hid (by rw [← HT.out, List.take_of_length_le (by rw [HN.out]; omega)])
      clear hlt
      go_wp2
      go_ret
      exact ⟨ret64 HE.out.symm, rfl⟩

/-- what a frame's bytes are while a number is put into n of them, from 'a' on: the last k of the n stand. -/
def putk (xs : List Nat) (a n v k : Nat) : List Nat := xs.take (a + (n - k)) ++ be k v ++ xs.drop (a + n)
def spl (xs : List Nat) (a n v : Nat) : List Nat := xs.take a ++ be n v ++ xs.drop (a + n)
theorem putk_zero (xs : List Nat) (a n v : Nat) : putk xs a n v 0 = xs := by
  unfold putk; simp [be]
theorem putk_all (xs : List Nat) (a n v : Nat) : putk xs a n v n = spl xs a n v := by
  unfold putk spl; simp
theorem putk_step (xs : List Nat) (a n v k : Nat) (hk : k < n) (hn : a + n ≤ xs.length) : (putk xs a n v k).set (a + (n - 1 - k)) (v / 256 ^ k % 256) = putk xs a n v (k + 1) := by
  unfold putk
  have e : a + (n - k) = (a + (n - 1 - k)) + 1 := by omega
  have hl : (xs.take (a + (n - 1 - k))).length = a + (n - 1 - k) := by rw [List.length_take]; omega
  rw [e, List.take_succ_eq_append_getElem (show a + (n - 1 - k) < xs.length by omega), List.append_assoc, List.append_assoc, List.set_append_right _ _ (by omega), hl, Nat.sub_self, show a + (n - (k + 1)) = a + (n - 1 - k) by omega]
  simp [be]
theorem spl_len (xs : List Nat) (a n v : Nat) (hn : a + n ≤ xs.length) : (spl xs a n v).length = xs.length := by
  unfold spl; simp [be_len]; omega

set_option maxHeartbeats 1000000 in
theorem put_any (g a n cap v base : Nat) (E : TypeId) (xs : List Nat) (N C : Nat) (w : World) (hown : OwnBys w base E (some ⟨g, 0, none⟩) N C xs) (hg : base ≤ g) (hn : a + n ≤ N) (hN : N ≤ 1000) (h8 : n ≤ 8) (hv : v < 18446744073709551616) :
    Calls Try.prog 24 #[.slice (some ⟨g, a, none⟩) n cap, .int .u64 (v : Int)] w fun e w' => e = .returned (.tuple #[]) ∧ OwnBys w' base E (some ⟨g, 0, none⟩) N C (spl xs a n v) ∧ Below base w w' ∧ w'.heap.size = w.heap.size := by
  have hl := hown.len
  go_enter Try.func24, Try.ntmps24
  go_wp2
  go_loopw [7] (fun i wr => ∃ k : Nat, k ≤ n ∧ i = .int .i64 k ∧ OwnBys wr base E (some ⟨g, 0, none⟩) N C (putk xs a n v k) ∧ Below base w wr ∧ Hid (wr.heap.size = w.heap.size)) (fun i _ => n - (intOf i).toNat)
  case atStart => exact ⟨0, Nat.zero_le _, rfl, by rw [putk_zero]; exact hown, Below.refl _ _, Lib.hid rfl⟩
  case round =>
    obtain ⟨k, hk, rfl, hown, hb, HS⟩ := hrel
    by_cases hlt : k < n
    · obtain ⟨g', x, e', _, hgl, HX, hcell, hx, hfr⟩ := hown.at_ (j := a + (n - 1 - k)) (by omega)
      simp only [Option.some.injEq, Addr.mk.injEq, and_true] at e'
      subst e'
      have hb2 : v / 256 ^ k % 256 < 256 := Nat.mod_lt _ (by omega)
      have HB : Hid ((v : Int) / 2 ^ (8 * k) % 256 = ((v / 256 ^ k % 256 : Nat) : Int)) := Lib.hid (by
        rw [show (256 : Nat) = 2 ^ 8 from rfl, ← Nat.pow_mul]; simp)
      have hown2 : OwnBys (wr.setCell ⟨g, a + (n - 1 - k), none⟩ (.int .u8 ((v / 256 ^ k % 256 : Nat) : Int))) base E (some ⟨g, 0, none⟩) N C (putk xs a n v (k + 1)) := by
        rw [← putk_step xs a n v k hlt (by omega)]
        exact hown.stored (a + (n - 1 - k)) hb2
      rw [← HB.out] at hown2
      go_wp2
      go_roundw
      case rel => exact ⟨k + 1, by omega, by go_num, hown2, hb.setCell (p := ⟨g, _, none⟩) hg _, Lib.hid (by rw [← HS.out]; simp [World.setCell])⟩
      case measure => first | (simp [intOf]; done) | (simp [intOf]; omega)
    · obtain rfl : n = k := by omega
      rw [putk_all] at hown
      go_wp2
      exact bodyPost_end (v := .tuple #[]) (by simp [results, Try.results24, go_sem]) rfl ⟨rfl, hown, hb, HS.out⟩

theorem place_any (g q i cap : Nat) (w : World) (hi : i < 6) (hcap : 72 ≤ cap) (hcl : cap ≤ 9223372036854775807) :
    Calls Try.prog 25 #[.slice (some ⟨g, q, none⟩) 72 cap, .int .i64 (i : Int)] w fun e w' => e = .returned (.slice (some ⟨g, q + (20 + 8 * i), none⟩) 8 (cap - (20 + 8 * i))) ∧ w = w' := by
  go_enter Try.func25, Try.ntmps25
  go_wp2
  go_ret
  exact ⟨retS (by omega), rfl⟩

theorem place_is (g q i cap o c2 : Nat) (z : Int) (w : World) (hz : z = (i : Int)) (ho : q + (20 + 8 * i) = o) (h2 : cap - (20 + 8 * i) = c2) (hi : i < 6) (hcap : 72 ≤ cap) (hcl : cap ≤ 9223372036854775807) :
    Calls Try.prog 25 #[.slice (some ⟨g, q, none⟩) 72 cap, .int .i64 z] w fun e w' => e = .returned (.slice (some ⟨g, o, none⟩) 8 c2) ∧ w = w' := by
  subst hz ho h2; exact place_any g q i cap w hi hcap hcl

theorem checked_any (A : Option Addr) (cap B : Nat) (bs : List Nat) (s : Nat) (w : World) (hx : Bys w B A bs) (hB : B ≤ w.heap.size) (hn : bs.length = 72) (hcap : 72 ≤ cap) (hcl : cap ≤ 9223372036854775807) (hs : crc.more 0 (bs.take 68) = s) :
    Calls Try.prog 26 #[.slice A 72 cap] w fun e w' => e = .returned (.agg #[.int .u8 ((s % 256 : Nat) : Int), .int .u8 ((s / 256 % 256 : Nat) : Int), .int .u8 ((s / 65536 % 256 : Nat) : Int), .int .u8 ((s / 16777216 % 256 : Nat) : Int)]) ∧ Below w.heap.size w w' := by
  have hl : s < 4294967296 := by rw [← hs]; exact crc.more_lt _ (by omega) (fun b hb => by have := hx.lt b (List.mem_of_mem_take hb); omega)
  have HS := Lib.hid hs
  have HN : Hid ((bs.take 68).length = 68) := Lib.hid (by rw [List.length_take]; omega)
  clear hs hn
  go_enter Try.func26, Try.ntmps26
  go_wp2_with ((with_reducible refine (crc.sum_is _ 68 _ B (bs.take 68) s _ ((hx.take 68).below (((Below.refl _ _).alloc hB _))) HN.out (by omega) HS.out).mono ?_); rintro e w' ⟨rfl, rfl⟩)
  exact bodyPost_ret (v := .agg #[.int .u8 ((s : Int) % 256), .int .u8 ((s : Int) / 256 % 256), .int .u8 ((s : Int) / 65536 % 256), .int .u8 ((s : Int) / 16777216)]) (by simp [results, Try.results26, go_sem]) rfl
    ⟨by rw [show ((s % 256 : Nat) : Int) = (s : Int) % 256 by omega, show ((s / 256 % 256 : Nat) : Int) = (s : Int) / 256 % 256 by omega, show ((s / 65536 % 256 : Nat) : Int) = (s : Int) / 65536 % 256 by omega, show ((s / 16777216 % 256 : Nat) : Int) = (s : Int) / 16777216 by omega], (Below.refl _ _).alloc (Nat.le_refl _) _⟩

end Go.Proofs.Ytbahlgijiglbdaa.frame
