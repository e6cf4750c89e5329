/-
  FrameMath, RecMath
-/
import Derived.Test.YtaagpldanbjacaaMa09
section
namespace Go.Proofs.Ytaagpldanbjacaa.frame
open Go.Proofs.Ytaagpldanbjacaa.crc

/-- n in k bytes, the highest first (its lowest k). -/
def be : Nat → Nat → List Nat
  | 0, _ => []
  | k + 1, n => n / 256 ^ k % 256 :: be k n
/-- what bytes have, the highest first. -/
def num (l : List Nat) : Nat := l.foldl (fun a c => a * 256 + c) 0
/-- n bytes from a place on. -/
def seg (l : List Nat) (a n : Nat) : List Nat := (l.drop a).take n

theorem be_len (k n : Nat) : (be k n).length = k := by
  induction k with
  | zero => rfl
  | succ k ih => simp [be, ih]
theorem be_lt (k n : Nat) : ∀ b ∈ be k n, b < 256 := by
  induction k with
  | zero => simp [be]
  | succ k ih =>
    intro b hb
    simp only [be, List.mem_cons] at hb
    rcases hb with rfl | hb
    · exact Nat.mod_lt _ (by omega)
    · exact ih b hb
theorem num_from (l : List Nat) (x : Nat) : l.foldl (fun a c => a * 256 + c) x = x * 256 ^ l.length + num l := by
  unfold num
  induction l generalizing x with
  | nil => simp
  | cons b l ih =>
    simp only [List.foldl_cons, List.length_cons]
    rw [ih, ih (0 * 256 + b), Nat.pow_succ, Nat.add_mul, Nat.mul_assoc, Nat.mul_comm 256]
    simp
    omega
theorem num_cons (b : Nat) (l : List Nat) : num (b :: l) = b * 256 ^ l.length + num l := by
  have := num_from l b
  unfold num at this ⊢
  simpa using this
theorem num_snoc (l : List Nat) (b : Nat) : num (l ++ [b]) = num l * 256 + b := by
  unfold num; rw [List.foldl_append]; rfl
theorem num_append (l m : List Nat) : num (l ++ m) = num l * 256 ^ m.length + num m := by
  have := num_from m (num l)
  unfold num at this ⊢
  rw [List.foldl_append, this]
theorem num_lt (l : List Nat) (h : ∀ b ∈ l, b < 256) : num l < 256 ^ l.length := by
  induction l with
  | nil => simp [num]
  | cons b l ih =>
    rw [num_cons, List.length_cons, Nat.pow_succ]
    have h1 := ih (fun c hc => h c (by simp [hc]))
    have h2 : (b + 1) * 256 ^ l.length ≤ 256 * 256 ^ l.length := Nat.mul_le_mul_right _ (by have := h b (by simp); omega)
    rw [Nat.add_mul] at h2
    rw [Nat.mul_comm (256 ^ l.length)]
    omega
theorem num_be (k n : Nat) : num (be k n) = n % 256 ^ k := by
  induction k with
  | zero => simp [be, num, Nat.mod_one]
  | succ k ih =>
    rw [be, num_cons, be_len, ih, Nat.pow_succ, Nat.mod_mul]
    rw [Nat.mul_comm, Nat.add_comm]
theorem be_mod (k n m : Nat) : be k (m * 256 ^ k + n) = be k n := by
  induction k generalizing m with
  | zero => rfl
  | succ k ih =>
    simp only [be]
    rw [Nat.pow_succ]
    have e : m * (256 ^ k * 256) + n = (m * 256) * 256 ^ k + n := by rw [Nat.mul_assoc, Nat.mul_comm 256]
    rw [e, ih (m * 256)]
    congr 1
    have hp : 0 < 256 ^ k := Nat.pow_pos (by omega)
    rw [Nat.add_comm, Nat.add_mul_div_right _ _ hp, Nat.add_mul_mod_self_right]
theorem be_num (l : List Nat) (h : ∀ b ∈ l, b < 256) : be l.length (num l) = l := by
  induction l with
  | nil => rfl
  | cons b l ih =>
    have hl := num_lt l (fun c hc => h c (by simp [hc]))
    have hp : 0 < 256 ^ l.length := Nat.pow_pos (by omega)
    rw [List.length_cons, be, num_cons, be_mod, ih (fun c hc => h c (by simp [hc]))]
    congr 1
    rw [Nat.add_comm, Nat.add_mul_div_right _ _ hp, Nat.div_eq_of_lt hl, Nat.zero_add]
    exact Nat.mod_eq_of_lt (h b (by simp))
theorem seg_len (l : List Nat) (a n : Nat) (h : a + n ≤ l.length) : (seg l a n).length = n := by simp [seg]; omega
theorem seg_lt {l : List Nat} (h : ∀ b ∈ l, b < 256) (a n : Nat) : ∀ b ∈ seg l a n, b < 256 := fun b hb => h b (List.mem_of_mem_drop (List.mem_of_mem_take hb))
theorem seg_join (l : List Nat) (a n m : Nat) : seg l a n ++ seg l (a + n) m = seg l a (n + m) := by
  unfold seg
  rw [← List.drop_drop, List.take_add]
theorem be_seg {l : List Nat} (h : ∀ b ∈ l, b < 256) (a n : Nat) (hl : a + n ≤ l.length) : be n (num (seg l a n)) = seg l a n := by
  have := be_num (seg l a n) (seg_lt h a n)
  rwa [seg_len l a n hl] at this

/-- a number as 64 bits, and what 64 bits are as a number. -/
def u (x : Int) : Nat := (x % 18446744073709551616).toNat
def sg (n : Nat) : Int := if n < 9223372036854775808 then (n : Int) else (n : Int) - 18446744073709551616
theorem u_lt (x : Int) : u x < 18446744073709551616 := by unfold u; omega
theorem sg_u {x : Int} (h : -9223372036854775808 ≤ x ∧ x ≤ 9223372036854775807) : sg (u x) = x := by unfold sg u; split <;> omega
theorem u_sg {n : Nat} (h : n < 18446744073709551616) : u (sg n) = n := by unfold sg u; split <;> omega
theorem u_nat {n : Nat} (h : n < 18446744073709551616) : u (n : Int) = n := by unfold u; omega
theorem sg_in {n : Nat} (h : n < 18446744073709551616) : -9223372036854775808 ≤ sg n ∧ sg n ≤ 9223372036854775807 := by unfold sg; split <;> omega

/-- a frame's numbers. -/
structure Fr where
  (e l k b0 b1 b2 b3 b4 b5 : Int)
  deriving DecidableEq
def zero : Fr := ⟨0, 0, 0, 0, 0, 0, 0, 0, 0⟩
def inR (x : Int) : Prop := -9223372036854775808 ≤ x ∧ x ≤ 9223372036854775807
def Fr.fine (f : Fr) : Prop := inR f.e ∧ inR f.l ∧ inR f.k ∧ inR f.b0 ∧ inR f.b1 ∧ inR f.b2 ∧ inR f.b3 ∧ inR f.b4 ∧ inR f.b5
def right (f : Fr) : Bool := decide (1 ≤ f.e ∧ f.e ≤ 1000000 ∧ 1 ≤ f.l ∧ f.l ≤ 1000000000 ∧ 1 ≤ f.k ∧ f.k ≤ 6)
/-- what is ahead of the sum. -/
def data (f : Fr) : List Nat := be 4 72 ++ (be 4 (u f.e) ++ (be 8 (u f.l) ++ (be 4 (u f.k) ++ (be 8 (u f.b0) ++ (be 8 (u f.b1) ++ (be 8 (u f.b2) ++ (be 8 (u f.b3) ++ (be 8 (u f.b4) ++ be 8 (u f.b5)))))))))
/-- four bytes, the lowest first. -/
def le4 (s : Nat) : List Nat := [s % 256, s / 256 % 256, s / 65536 % 256, s / 16777216 % 256]
def enc (f : Fr) : List Nat := data f ++ le4 (more 0 (data f))
/-- the numbers that stand in bytes. -/
def parse (l : List Nat) : Fr :=
  ⟨(num (seg l 4 4) : Nat), sg (num (seg l 8 8)), (num (seg l 16 4) : Nat), sg (num (seg l 20 8)), sg (num (seg l 28 8)), sg (num (seg l 36 8)), sg (num (seg l 44 8)), sg (num (seg l 52 8)), sg (num (seg l 60 8))⟩
/-- which frame bytes are: 0 and the frame, or an error's number and none. -/
def dec (l : List Nat) : Int × Fr :=
  if l.length ≠ 72 ∨ num (seg l 0 4) ≠ 72 then (2, zero)
  else if seg l 68 4 ≠ le4 (more 0 (l.take 68)) then (10, zero)
  else if right (parse l) = true then (0, parse l) else (2, zero)

theorem data_len (f : Fr) : (data f).length = 68 := by simp [data, be_len]
theorem enc_len (f : Fr) : (enc f).length = 72 := by simp [enc, data_len, le4]
theorem data_lt (f : Fr) : ∀ b ∈ data f, b < 256 := by
  intro b hb
  simp only [data, List.mem_append] at hb
  rcases hb with h | h | h | h | h | h | h | h | h | h <;> exact be_lt _ _ b h
theorem le4_lt (s : Nat) : ∀ b ∈ le4 s, b < 256 := by
  intro b hb; simp [le4] at hb; omega
theorem enc_lt (f : Fr) : ∀ b ∈ enc f, b < 256 := by
  intro b hb
  simp only [enc, List.mem_append] at hb
  rcases hb with h | h
  · exact data_lt f b h
  · exact le4_lt _ b h
theorem enc_take (f : Fr) : (enc f).take 68 = data f := by
  have := data_len f
  unfold enc; rw [List.take_append_of_le_length (by omega), List.take_of_length_le (by omega)]
theorem enc_seg (f : Fr) : seg (enc f) 68 4 = le4 (more 0 (data f)) := by
  have := data_len f
  unfold enc seg; rw [List.drop_append_of_le_length (by omega), List.drop_of_length_le (by omega)]; rfl
theorem right_fit {f : Fr} (h : right f = true) : 1 ≤ f.e ∧ f.e ≤ 1000000 ∧ 1 ≤ f.l ∧ f.l ≤ 1000000000 ∧ 1 ≤ f.k ∧ f.k ≤ 6 := by simpa [right] using h
theorem parse_enc (f : Fr) (hf : f.fine) (h : right f = true) : parse (enc f) = f := by
  obtain ⟨h1, h2, h3, h4, h5, h6⟩ := right_fit h
  obtain ⟨_, g2, _, g4, g5, g6, g7, g8, g9⟩ := hf
  have e1 : seg (enc f) 4 4 = be 4 (u f.e) := rfl
  have e2 : seg (enc f) 8 8 = be 8 (u f.l) := rfl
  have e3 : seg (enc f) 16 4 = be 4 (u f.k) := rfl
  have e4 : seg (enc f) 20 8 = be 8 (u f.b0) := rfl
  have e5 : seg (enc f) 28 8 = be 8 (u f.b1) := rfl
  have e6 : seg (enc f) 36 8 = be 8 (u f.b2) := rfl
  have e7 : seg (enc f) 44 8 = be 8 (u f.b3) := rfl
  have e8 : seg (enc f) 52 8 = be 8 (u f.b4) := rfl
  have e9 : seg (enc f) 60 8 = be 8 (u f.b5) := rfl
  have k8 : ∀ x, inR x → sg (num (be 8 (u x))) = x := fun x hx => by
    rw [num_be, Nat.mod_eq_of_lt (by have := u_lt x; simpa using this)]; exact sg_u hx
  have k4 : ∀ x : Int, 0 ≤ x → x < 4294967296 → ((num (be 4 (u x)) : Nat) : Int) = x := fun x h0 hx => by
    rw [num_be]; unfold u; simp; omega
  unfold parse
  rw [e1, e2, e3, e4, e5, e6, e7, e8, e9, k8 _ g2, k8 _ g4, k8 _ g5, k8 _ g6, k8 _ g7, k8 _ g8, k8 _ g9, k4 _ (by omega) (by omega), k4 _ (by omega) (by omega)]
theorem dec_enc (f : Fr) (hf : f.fine) (h : right f = true) : dec (enc f) = (0, f) := by
  have e0 : num (seg (enc f) 0 4) = 72 := by rw [show seg (enc f) 0 4 = be 4 72 from rfl]; decide
  unfold dec
  rw [if_neg (by rw [enc_len, e0]; simp), if_neg (by rw [enc_take, enc_seg]; simp), parse_enc f hf h, if_pos h]
theorem data_parse {l : List Nat} (hl : l.length = 72) (h : ∀ b ∈ l, b < 256) (h0 : num (seg l 0 4) = 72) : data (parse l) = l.take 68 := by
  have k8 : ∀ a, a + 8 ≤ 72 → be 8 (u (sg (num (seg l a 8)))) = seg l a 8 := fun a ha => by
    have := num_lt (seg l a 8) (seg_lt h a 8)
    rw [seg_len l a 8 (by omega)] at this
    rw [u_sg (by simpa using this), be_seg h a 8 (by omega)]
  have k4 : ∀ a, a + 4 ≤ 72 → be 4 (u ((num (seg l a 4) : Nat) : Int)) = seg l a 4 := fun a ha => by
    have := num_lt (seg l a 4) (seg_lt h a 4)
    rw [seg_len l a 4 (by omega)] at this
    rw [u_nat (by omega), be_seg h a 4 (by omega)]
  have k0 : be 4 72 = seg l 0 4 := by rw [← h0, be_seg h 0 4 (by omega)]
  unfold data parse
  simp only
  rw [k0, k4 4 (by omega), k8 8 (by omega), k4 16 (by omega), k8 20 (by omega), k8 28 (by omega), k8 36 (by omega), k8 44 (by omega), k8 52 (by omega), k8 60 (by omega)]
  rw [seg_join l 52 8 8, seg_join l 44 8 16, seg_join l 36 8 24, seg_join l 28 8 32, seg_join l 20 8 40, seg_join l 16 4 48, seg_join l 8 8 52, seg_join l 4 4 60, seg_join l 0 4 64]
  simp [seg]
theorem parse_fine {l : List Nat} (h : ∀ b ∈ l, b < 256) : (parse l).fine := by
  have k8 : ∀ a, inR (sg (num (seg l a 8))) := fun a => by
    have h1 := num_lt (seg l a 8) (seg_lt h a 8)
    have h2 : (256 : Nat) ^ (seg l a 8).length ≤ 256 ^ 8 := Nat.pow_le_pow_right (by omega) (by simp [seg]; omega)
    exact sg_in (by have : (256 : Nat) ^ 8 = 18446744073709551616 := by decide
                    omega)
  have k4 : ∀ a, inR ((num (seg l a 4) : Nat) : Int) := fun a => by
    have h1 := num_lt (seg l a 4) (seg_lt h a 4)
    have h2 : (256 : Nat) ^ (seg l a 4).length ≤ 256 ^ 4 := Nat.pow_le_pow_right (by omega) (by simp [seg]; omega)
    have : (256 : Nat) ^ 4 = 4294967296 := by decide
    unfold inR; omega
  exact ⟨k4 4, k8 8, k4 16, k8 20, k8 28, k8 36, k8 44, k8 52, k8 60⟩
theorem zero_fine : zero.fine := by simp [zero, Fr.fine, inR]
theorem dec_fine {l : List Nat} (h : ∀ b ∈ l, b < 256) : (dec l).2.fine := by
  unfold dec
  split
  · exact zero_fine
  · split
    · exact zero_fine
    · split
      · exact parse_fine h
      · exact zero_fine
/-- bytes that are read are those of what is read. -/
theorem dec_ok {l : List Nat} (h : ∀ b ∈ l, b < 256) (hd : (dec l).1 = 0) : right (dec l).2 = true ∧ enc (dec l).2 = l ∧ l.length = 72 := by
  unfold dec at hd ⊢
  split at hd
  · simp at hd
  · rename_i h1
    split at hd
    · simp at hd
    · rename_i h2
      split at hd
      · rename_i h3
        rw [if_neg h1, if_neg h2, if_pos h3]
        have hl : l.length = 72 := by omega
        refine ⟨h3, ?_, hl⟩
        show data (parse l) ++ le4 (more 0 (data (parse l))) = l
        rw [data_parse hl h (by omega)]
        have h2' : seg l 68 4 = le4 (more 0 (l.take 68)) := by simpa using h2
        rw [← h2']
        unfold seg
        rw [List.take_of_length_le (l := l.drop 68) (by simp; omega), List.take_append_drop]
      · simp at hd
theorem dec_no {l : List Nat} (hd : (dec l).1 ≠ 0) : (dec l).2 = zero := by
  unfold dec at hd ⊢
  split
  · rfl
  · rename_i h1
    split
    · rfl
    · rename_i h2
      split
      · rename_i h3
        rw [if_neg h1, if_neg h2, if_pos h3] at hd
        simp at hd
      · rfl
theorem enc_inj {f g : Fr} (hf : f.fine) (hg : g.fine) (rf : right f = true) (rg : right g = true) : enc f = enc g ↔ f = g :=
  ⟨fun h => by
    have := dec_enc f hf rf
    rw [h, dec_enc g hg rg] at this
    exact (Prod.mk.inj this).2.symm, fun h => by rw [h]⟩
theorem dec_short {l : List Nat} (h : l.length ≠ 72) : (dec l).1 = 2 := by unfold dec; rw [if_pos (.inl h)]

theorem low_xor (x : Nat) : x ^^^ (x % 256) = 256 * (x / 256) := by
  have h1 : (x ^^^ (x % 256)) % 256 = 0 := by
    have := Nat.xor_mod_two_pow (a := x) (b := x % 256) (n := 8)
    simp only [show 2 ^ 8 = 256 from rfl, Nat.mod_mod, Nat.xor_self] at this
    exact this
  have h2 : (x ^^^ (x % 256)) / 256 = x / 256 := by
    have := Nat.shiftRight_xor_distrib (a := x) (b := x % 256) (i := 8)
    simp only [Nat.shiftRight_eq_div_pow, show 2 ^ 8 = 256 from rfl] at this
    rw [this, show x % 256 / 256 = 0 by omega, Nat.xor_zero]
  omega
theorem downs_even (k y : Nat) : downs k (2 ^ k * y) = y := by
  induction k generalizing y with
  | zero => simp [downs]
  | succ k ih =>
    show downs k (down (2 ^ (k + 1) * y)) = y
    rw [down_even _ (by rw [Nat.pow_succ, Nat.mul_comm (2 ^ k) 2, Nat.mul_assoc]; omega), show 2 ^ (k + 1) * y / 2 = 2 ^ k * y by rw [Nat.pow_succ, Nat.mul_comm (2 ^ k) 2, Nat.mul_assoc]; omega]
    exact ih y
theorem byte_low (x : Nat) : byte x (x % 256) = x / 256 := by
  unfold byte
  rw [low_xor]
  exact downs_even 8 (x / 256)
/-- the register's own bytes, the lowest first, bring it to nothing. -/
theorem bytes_own {x : Nat} (h : x < 4294967296) : bytes x (le4 x) = 0 := by
  show byte (byte (byte (byte x (x % 256)) (x / 256 % 256)) (x / 65536 % 256)) (x / 16777216 % 256) = 0
  rw [byte_low, byte_low, show x / 65536 % 256 = x / 256 / 256 % 256 by omega, byte_low, show x / 16777216 % 256 = x / 256 / 256 / 256 % 256 by omega, byte_low]
  omega
theorem le4_xor (a b : Nat) : le4 (a ^^^ b) = turn (le4 a) (le4 b) := by
  have k : ∀ i, (a ^^^ b) / 2 ^ i % 256 = (a / 2 ^ i % 256) ^^^ (b / 2 ^ i % 256) := fun i => by
    have h1 := Nat.shiftRight_xor_distrib (a := a) (b := b) (i := i)
    simp only [Nat.shiftRight_eq_div_pow] at h1
    have h2 := Nat.xor_mod_two_pow (a := a / 2 ^ i) (b := b / 2 ^ i) (n := 8)
    simp only [show 2 ^ 8 = 256 from rfl] at h2
    rw [h1, h2]
  have k0 := k 0
  have k1 := k 8
  have k2 := k 16
  have k3 := k 24
  simp only [Nat.pow_zero, Nat.div_one, show 2 ^ 8 = 256 from rfl, show 2 ^ 16 = 65536 from rfl, show 2 ^ 24 = 16777216 from rfl] at k0 k1 k2 k3
  unfold le4 turn
  simp only [List.zipWith_cons_cons, List.zipWith_nil_left, k0, k1, k2, k3]
/-- bytes behind which their own sum stands have the same sum, whatever they are. -/
theorem fits_sum (C : Nat) (hC : bytes 0 (le4 4294967295) = C) {l : List Nat} (hl : l.length = 72) (h : ∀ b ∈ l, b < 256) (hs : seg l 68 4 = le4 (more 0 (l.take 68))) : more 0 l = C ^^^ 4294967295 := by
  have hr : bytes 4294967295 (l.take 68) < 4294967296 := bytes_lt _ (by omega) (fun b hb => by have := h b (List.mem_of_mem_take hb); omega)
  have e : l.take 68 ++ seg l 68 4 = l := by
    unfold seg
    rw [List.take_of_length_le (l := l.drop 68) (by simp; omega), List.take_append_drop]
  have m0 : ∀ t, more 0 t = bytes 4294967295 t ^^^ 4294967295 := fun t => by unfold more; rw [Nat.zero_xor]
  rw [m0] at hs
  have hb : bytes 4294967295 l = C := by
    rw [← e, bytes_append, hs]
    generalize l.take 68 = t at hr
    generalize bytes 4294967295 t = r at hr
    rw [le4_xor]
    have := bytes_xor (le4 r) (le4 4294967295) (by simp [le4]) r 0
    rw [Nat.xor_zero] at this
    rw [this, bytes_own hr, Nat.zero_xor, hC]
  rw [m0 l, hb]
theorem dec_fits {l : List Nat} (hd : (dec l).1 = 0) : l.length = 72 ∧ seg l 68 4 = le4 (more 0 (l.take 68)) := by
  unfold dec at hd
  split at hd
  · simp at hd
  · rename_i h1
    split at hd
    · simp at hd
    · rename_i h2
      exact ⟨by omega, by simpa using h2⟩
theorem amid_none (f k m : Nat) (ys : List Nat) (hk : k ≤ ys.length) (h : ∀ y ∈ ys.take k, y = 0) : amid f k m ys = List.replicate (f + k + m) 0 := by
  unfold amid
  have : ys.take k = List.replicate k 0 := by
    rw [List.eq_replicate_iff]
    exact ⟨by simp; omega, h⟩
  rw [this, List.replicate_append_replicate, List.replicate_append_replicate]
/-- a frame's bytes that are changed only within four that follow one another are none of a frame. -/
theorem dec_turned (g : Fr) (hg : g.fine) (hr : right g = true) (f k : Nat) (ys : List Nat) (hk : k ≤ 4) (hky : k ≤ ys.length) (hy : ∀ y ∈ ys, y < 256) (hf : f + k ≤ 72) :
    (dec (turn (enc g) (amid f k (72 - f - k) ys))).1 = 0 ↔ ∀ y ∈ ys.take k, y = 0 := by
  have he := enc_len g
  constructor
  · intro hd
    obtain ⟨hl, hs⟩ := dec_fits hd
    have ht : ∀ b ∈ turn (enc g) (amid f k (72 - f - k) ys), b < 256 := by
      intro b hb
      obtain ⟨i, hi, rfl⟩ := List.mem_iff_getElem.1 hb
      simp only [turn, List.getElem_zipWith]
      refine Nat.xor_lt_two_pow (n := 8) (enc_lt g _ (List.getElem_mem _)) ?_
      have hm : (amid f k (72 - f - k) ys)[i]'(by simp [turn] at hi; omega) ∈ amid f k (72 - f - k) ys := List.getElem_mem _
      generalize (amid f k (72 - f - k) ys)[i]'(by simp [turn] at hi; omega) = y at hm
      simp only [amid, List.mem_append, List.mem_replicate] at hm
      rcases hm with (⟨_, rfl⟩ | h) | ⟨_, rfl⟩
      · decide
      · exact hy y (List.mem_of_mem_take h)
      · decide
    have h1 := fits_sum _ rfl hl ht hs
    have h2 := fits_sum _ rfl he (enc_lt g) (by rw [enc_seg, enc_take])
    exact (more_burst (enc g) (List.replicate f 0) (ys.take k) (List.replicate (72 - f - k) 0) (by rw [List.length_take]; omega) (fun b hb => List.eq_of_mem_replicate hb) (fun y hy' => hy y (List.mem_of_mem_take hy')) (fun b hb => List.eq_of_mem_replicate hb) (by simp; omega)).1 (h1.trans h2.symm)
  · intro h0
    rw [amid_none f k _ ys hky h0, show f + k + (72 - f - k) = (enc g).length by omega, turn_zeros, dec_enc g hg hr]

end Go.Proofs.Ytaagpldanbjacaa.frame
end
section
namespace Go.Proofs.Ytaagpldanbjacaa.rec
open Go.Proofs.Ytaagpldanbjacaa.frame (inR)
set_option linter.unusedSimpArgs false
set_option linter.unusedVariables false

structure Rc where
  (k o a y d q p l s n : Int) (on : Bool) (z t : Int)
  deriving DecidableEq
structure Ns where
  (b0 b1 b2 b3 b4 b5 : Int)
  deriving DecidableEq
def Rc.fine (r : Rc) : Prop := inR r.k ∧ inR r.o ∧ inR r.a ∧ inR r.y ∧ inR r.d ∧ inR r.q ∧ inR r.p ∧ inR r.l ∧ inR r.s ∧ inR r.n ∧ inR r.z ∧ inR r.t
def Ns.fine (b : Ns) : Prop := inR b.b0 ∧ inR b.b1 ∧ inR b.b2 ∧ inR b.b3 ∧ inR b.b4 ∧ inR b.b5
def nz : Ns := ⟨0, 0, 0, 0, 0, 0⟩
def rz : Rc := ⟨0, 0, 0, 0, 0, 0, 0, 0, 0, 0, false, 0, 0⟩

def nums (r : Rc) : Ns :=
  if r.k = 1 then ⟨r.o, r.a, r.y, r.d, r.q, r.p⟩
  else if r.k = 2 then ⟨r.o, r.q, r.p, 0, 0, 0⟩
  else if r.k = 3 then ⟨r.o, 0, 0, 0, 0, 0⟩
  else if r.k = 4 then ⟨r.a, r.y, r.l, r.s, r.n, 0⟩
  else if r.k = 5 then (if r.on = true then ⟨1, 0, 0, 0, 0, 0⟩ else nz)
  else if r.k = 6 then ⟨r.z, r.t, r.o, r.q, r.p, 0⟩
  else nz
def rd (k : Int) (b : Ns) : Rc :=
  if k = 1 then ⟨k, b.b0, b.b1, b.b2, b.b3, b.b4, b.b5, 0, 0, 0, false, 0, 0⟩
  else if k = 2 then ⟨k, b.b0, 0, 0, 0, b.b1, b.b2, 0, 0, 0, false, 0, 0⟩
  else if k = 3 then ⟨k, b.b0, 0, 0, 0, 0, 0, 0, 0, 0, false, 0, 0⟩
  else if k = 4 then ⟨k, 0, b.b0, b.b1, 0, 0, 0, b.b2, b.b3, b.b4, false, 0, 0⟩
  else if k = 5 then ⟨k, 0, 0, 0, 0, 0, 0, 0, 0, 0, decide (b.b0 = 1), 0, 0⟩
  else if k = 6 then ⟨k, b.b2, 0, 0, 0, b.b3, b.b4, 0, 0, 0, false, b.b0, b.b1⟩
  else ⟨k, 0, 0, 0, 0, 0, 0, 0, 0, 0, false, 0, 0⟩
def mayOrder (o : Int) : Bool := decide (1 ≤ o ∧ o ≤ 1000000000000)
def mayAcc (a : Int) : Bool := decide (0 ≤ a ∧ a < 8)
def mayAsk (q p : Int) : Bool := decide (1 ≤ q ∧ 1 ≤ p)
def mayBound (y l s n : Int) : Bool := if y = -1 then decide (l = 0 ∧ s = 0 ∧ 0 ≤ n) else mayAcc y && decide (0 ≤ l ∧ 0 ≤ s ∧ 0 ≤ n)
def mayTell (t q p : Int) : Bool :=
  if t = 3 then decide (1 ≤ q ∧ p = 0)
  else if t = 5 then mayAsk q p
  else if t = 1 ∨ t = 2 ∨ t = 4 ∨ t = 6 then decide (q = 0 ∧ p = 0)
  else false
def may (r : Rc) : Bool :=
  if r.k = 1 then mayOrder r.o && mayAcc r.a && mayAcc r.y && decide (r.d = 1 ∨ r.d = 2) && mayAsk r.q r.p
  else if r.k = 2 then mayOrder r.o && mayAsk r.q r.p
  else if r.k = 3 then mayOrder r.o
  else if r.k = 4 then mayAcc r.a && mayBound r.y r.l r.s r.n
  else if r.k = 5 then true
  else if r.k = 6 then decide (1 ≤ r.z ∧ r.z ≤ 1000000000) && mayOrder r.o && mayTell r.t r.q r.p
  else false
def right (r : Rc) : Bool := may r && decide (rd r.k (nums r) = r)
def unp (k : Int) (b : Ns) : Rc × Int := if right (rd k b) = true ∧ nums (rd k b) = b then (rd k b, 0) else (rz, 2)

theorem rd_k (k : Int) (b : Ns) : (rd k b).k = k := by
  unfold rd
  repeat' split
  all_goals rfl
theorem right_kind {r : Rc} (h : right r = true) : 1 ≤ r.k ∧ r.k ≤ 6 := by
  unfold right may at h
  rw [Bool.and_eq_true] at h
  have h := h.1
  repeat' split at h
  all_goals first | omega | cases h
theorem right_back {r : Rc} (h : right r = true) : rd r.k (nums r) = r := by
  unfold right at h
  rw [Bool.and_eq_true] at h
  exact of_decide_eq_true h.2
theorem unp_nums {r : Rc} (h : right r = true) : unp r.k (nums r) = (r, 0) := by
  unfold unp
  rw [right_back h, if_pos ⟨h, rfl⟩]
theorem unp_ok {k : Int} {b : Ns} {r : Rc} (h : unp k b = (r, 0)) : right r = true ∧ nums r = b ∧ r.k = k := by
  unfold unp at h
  split at h
  · rename_i hc
    obtain rfl : rd k b = r := by simpa using h
    exact ⟨hc.1, hc.2, rd_k k b⟩
  · simp at h
theorem unp_no {k : Int} {b : Ns} {r : Rc} {e : Int} (h : unp k b = (r, e)) : (e = 0 ∨ e = 2 ∧ r = rz) := by
  unfold unp at h
  split at h
  · simp at h; exact .inl h.2.symm
  · simp at h; exact .inr ⟨h.2.symm, h.1.symm⟩
theorem nums_inj {r s : Rc} (hr : right r = true) (hs : right s = true) (hk : r.k = s.k) : (nums r = nums s) ↔ r = s := by
  constructor
  · intro h
    rw [← right_back hr, ← right_back hs, hk, h]
  · rintro rfl; rfl
theorem in0 : inR 0 := by simp [inR]
theorem in1 : inR 1 := by simp [inR]
theorem rz_fine : rz.fine := by simp [rz, Rc.fine, in0]
theorem nz_fine : nz.fine := by simp [nz, Ns.fine, in0]
theorem nums_fine {r : Rc} (h : r.fine) : (nums r).fine := by
  obtain ⟨h1, h2, h3, h4, h5, h6, h7, h8, h9, h10, h11, h12⟩ := h
  unfold nums
  repeat' split
  all_goals simp only [Ns.fine, nz, in0, in1, *, and_self]
theorem rd_fine {k : Int} {b : Ns} (hk : inR k) (h : b.fine) : (rd k b).fine := by
  obtain ⟨h1, h2, h3, h4, h5, h6⟩ := h
  unfold rd
  repeat' split
  all_goals refine ⟨hk, ?_, ?_, ?_, ?_, ?_, ?_, ?_, ?_, ?_, ?_, ?_⟩ <;> first | assumption | exact in0
theorem unp_fine {k : Int} {b : Ns} (hk : inR k) (h : b.fine) : (unp k b).1.fine := by
  unfold unp
  split
  · exact rd_fine hk h
  · exact rz_fine

def pack (r : Rc) : Ns × Int := if right r = true then (nums r, 0) else (nz, 1)
/-- a record's frame. -/
def fr (r : Rc) (e l : Int) : frame.Fr := ⟨e, l, r.k, (nums r).b0, (nums r).b1, (nums r).b2, (nums r).b3, (nums r).b4, (nums r).b5⟩

def framed (r : Rc) (l e : Int) : frame.Fr × Int := if right r = true then (fr r e l, 0) else (frame.zero, 1)

theorem fields_seq {r : Rc} (h : right r = true) (hk : r.k = 1 ∨ r.k = 2 ∨ r.k = 3) {m : Int} (hm : m ≠ 0) : right { r with z := m } = false := by
  obtain ⟨k, o, a, y, d, q, p, l, s, n, on, z, t⟩ := r
  simp only at hk
  unfold right
  rw [Bool.and_eq_false_iff]
  refine .inr (decide_eq_false ?_)
  rcases hk with rfl | rfl | rfl <;> simp [rd, nums] <;> omega
theorem fields_order {r : Rc} (h : right r = true) (hk : r.k = 4) {m : Int} (hm : m ≠ 0) : right { r with o := m } = false := by
  obtain ⟨k, o, a, y, d, q, p, l, s, n, on, z, t⟩ := r
  simp only at hk
  subst hk
  unfold right
  rw [Bool.and_eq_false_iff]
  refine .inr (decide_eq_false ?_)
  simp [rd, nums]
  omega
theorem fields_qty {r : Rc} (h : right r = true) (hk : r.k = 5) {m : Int} (hm : m ≠ 0) : right { r with q := m } = false := by
  obtain ⟨k, o, a, y, d, q, p, l, s, n, on, z, t⟩ := r
  simp only at hk
  subst hk
  unfold right
  rw [Bool.and_eq_false_iff]
  refine .inr (decide_eq_false ?_)
  simp [rd, nums]
  omega
theorem fields_long {r : Rc} (h : right r = true) (hk : r.k = 6) {m : Int} (hm : m ≠ 0) : right { r with l := m } = false := by
  obtain ⟨k, o, a, y, d, q, p, l, s, n, on, z, t⟩ := r
  simp only at hk
  subst hk
  unfold right
  rw [Bool.and_eq_false_iff]
  refine .inr (decide_eq_false ?_)
  simp [rd, nums]
  omega
theorem fields_ordered {r : Rc} (h : right r = true) : 0 < r.o ↔ ¬ (r.k = 4 ∨ r.k = 5) := by
  have hb := right_back h
  have hk := right_kind h
  unfold right at h
  rw [Bool.and_eq_true] at h
  have h := h.1
  obtain ⟨k, o, a, y, d, q, p, l, s, n, on, z, t⟩ := r
  simp only at hk ⊢
  unfold may at h
  unfold rd nums at hb
  simp only at h hb
  have hc : k = 1 ∨ k = 2 ∨ k = 3 ∨ k = 4 ∨ k = 5 ∨ k = 6 := by omega
  rcases hc with rfl | rfl | rfl | rfl | rfl | rfl <;> simp [mayOrder] at h hb ⊢ <;> omega

/-- the document's own words for which record is right: the same. -/
def want (r : Rc) : Rc :=
  if r.k = 1 then ⟨r.k, r.o, r.a, r.y, r.d, r.q, r.p, 0, 0, 0, false, 0, 0⟩
  else if r.k = 2 then ⟨r.k, r.o, 0, 0, 0, r.q, r.p, 0, 0, 0, false, 0, 0⟩
  else if r.k = 3 then ⟨r.k, r.o, 0, 0, 0, 0, 0, 0, 0, 0, false, 0, 0⟩
  else if r.k = 4 then ⟨r.k, 0, r.a, r.y, 0, 0, 0, r.l, r.s, r.n, false, 0, 0⟩
  else if r.k = 5 then ⟨r.k, 0, 0, 0, 0, 0, 0, 0, 0, 0, r.on, 0, 0⟩
  else if r.k = 6 then ⟨r.k, r.o, 0, 0, 0, if r.t = 3 ∨ r.t = 5 then r.q else 0, if r.t = 5 then r.p else 0, 0, 0, 0, false, r.z, r.t⟩
  else ⟨r.k, 0, 0, 0, 0, 0, 0, 0, 0, 0, false, 0, 0⟩
def okR (r : Rc) : Bool :=
  if r.k = 1 then decide (0 < r.o ∧ r.o ≤ 1000000000000 ∧ 0 ≤ r.a ∧ r.a < 8 ∧ 0 ≤ r.y ∧ r.y < 8 ∧ 1 ≤ r.d ∧ r.d ≤ 2 ∧ 0 < r.q ∧ 0 < r.p)
  else if r.k = 2 then decide (0 < r.o ∧ r.o ≤ 1000000000000 ∧ 0 < r.q ∧ 0 < r.p)
  else if r.k = 3 then decide (0 < r.o ∧ r.o ≤ 1000000000000)
  else if r.k = 4 then decide (0 ≤ r.a ∧ r.a < 8 ∧ -1 ≤ r.y ∧ r.y < 8 ∧ 0 ≤ r.l ∧ 0 ≤ r.s ∧ 0 ≤ r.n ∧ ¬ (r.y = -1 ∧ (r.l ≠ 0 ∨ r.s ≠ 0)))
  else if r.k = 5 then true
  else if r.k = 6 then decide (0 < r.z ∧ r.z ≤ 1000000000 ∧ 1 ≤ r.t ∧ r.t ≤ 6 ∧ 0 < r.o ∧ r.o ≤ 1000000000000 ∧ (r.t = 3 ∨ r.t = 5 → 0 < r.q) ∧ (r.t = 5 → 0 < r.p))
  else false
theorem right_eq (r : Rc) : (okR r && decide (r = want r)) = right r := by
  obtain ⟨k, o, a, y, d, q, p, l, s, n, on, z, t⟩ := r
  unfold right
  rw [Bool.eq_iff_iff]
  simp only [Bool.and_eq_true, decide_eq_true_eq]
  by_cases h1 : k = 1
  · subst h1; cases on <;> simp [okR, want, may, rd, nums, mayOrder, mayAcc, mayAsk] <;> omega
  by_cases h2 : k = 2
  · subst h2; cases on <;> simp [okR, want, may, rd, nums, mayOrder, mayAcc, mayAsk] <;> omega
  by_cases h3 : k = 3
  · subst h3; cases on <;> simp [okR, want, may, rd, nums, mayOrder, mayAcc, mayAsk] <;> omega
  by_cases h4 : k = 4
  · subst h4
    by_cases hy : y = -1
    · subst hy; cases on <;> simp [okR, want, may, rd, nums, mayOrder, mayAcc, mayAsk, mayBound] <;> omega
    · cases on <;> simp [okR, want, may, rd, nums, mayOrder, mayAcc, mayAsk, mayBound, hy] <;> omega
  by_cases h5 : k = 5
  · subst h5
    cases on <;> simp [okR, want, may, rd, nums, nz] <;> omega
  by_cases h6 : k = 6
  · subst h6
    by_cases t3 : t = 3
    · subst t3; cases on <;> simp [okR, want, may, rd, nums, mayOrder, mayTell] <;> omega
    by_cases t5 : t = 5
    · subst t5; cases on <;> simp [okR, want, may, rd, nums, mayOrder, mayTell, mayAsk] <;> omega
    · cases on <;> simp [okR, want, may, rd, nums, mayOrder, mayTell, t3, t5] <;> omega
  · simp [okR, may, h1, h2, h3, h4, h5, h6]

end Go.Proofs.Ytaagpldanbjacaa.rec
end
