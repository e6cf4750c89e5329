/-
  Plain mathematics of layer 5, over no program: frames in a row, their bytes, what bytes begin with.
-/
import Derived.Test.YtegbaidnkniccaaFrameMath
namespace Go.Proofs.Ytegbaidnkniccaa.scan
open Go.Proofs.Ytegbaidnkniccaa.frame

/-- frames in a row, from a number and an epoch on. -/
def row : List Fr → Int → Int → Bool
  | [], _, _ => true
  | f :: l, n, e => right f && decide (f.l = n) && decide (e ≤ f.e) && row l (n + 1) f.e
def put (l : List Fr) : List Nat := l.flatMap enc
/-- the frames in a row that bytes begin with, k at most. -/
def scan : Nat → List Nat → Int → Int → List Fr
  | 0, _, _, _ => []
  | k + 1, b, n, e => if 72 ≤ b.length ∧ (dec (b.take 72)).1 = 0 ∧ (dec (b.take 72)).2.l = n ∧ e ≤ (dec (b.take 72)).2.e then (dec (b.take 72)).2 :: scan k (b.drop 72) (n + 1) (dec (b.take 72)).2.e else []

theorem put_nil : put [] = [] := rfl
theorem put_cons (f : Fr) (l : List Fr) : put (f :: l) = enc f ++ put l := by simp [put]
theorem put_append (l m : List Fr) : put (l ++ m) = put l ++ put m := by simp [put]
theorem put_len (l : List Fr) : (put l).length = 72 * l.length := by
  induction l with
  | nil => rfl
  | cons f l ih => rw [put_cons, List.length_append, enc_len, ih, List.length_cons]; omega
theorem row_cons (f : Fr) (l : List Fr) (n e : Int) : row (f :: l) n e = true ↔ right f = true ∧ f.l = n ∧ e ≤ f.e ∧ row l (n + 1) f.e = true := by
  simp [row, and_assoc]
theorem scan_zero (b : List Nat) (n e : Int) : scan 0 b n e = [] := rfl
theorem scan_short {b : List Nat} (h : b.length < 72) (k : Nat) (n e : Int) : scan k b n e = [] := by
  cases k with
  | zero => rfl
  | succ k => simp only [scan]; rw [if_neg (by omega)]
/-- what is read is in a row, and the bytes begin with its. -/
theorem scan_row (k : Nat) (b : List Nat) (n e : Int) (hb : ∀ x ∈ b, x < 256) : row (scan k b n e) n e = true ∧ put (scan k b n e) = b.take (72 * (scan k b n e).length) := by
  induction k generalizing b n e with
  | zero => simp [scan, row, put]
  | succ k ih =>
    simp only [scan]
    split
    · rename_i h
      obtain ⟨h1, h2, h3, h4⟩ := h
      have hd := dec_ok (l := b.take 72) (fun x hx => hb x (List.mem_of_mem_take hx)) h2
      have hi := ih (b.drop 72) (n + 1) (dec (b.take 72)).2.e (fun x hx => hb x (List.mem_of_mem_drop hx))
      refine ⟨(row_cons _ _ _ _).2 ⟨hd.1, h3, h4, hi.1⟩, ?_⟩
      rw [put_cons, hd.2.1, hi.2, List.length_cons, show 72 * ((scan k (b.drop 72) (n + 1) (dec (b.take 72)).2.e).length + 1) = 72 + 72 * (scan k (b.drop 72) (n + 1) (dec (b.take 72)).2.e).length by omega, List.take_add]
    · simp [row, put]
/-- frames in a row are read from their bytes; then what follows. -/
theorem scan_put (l : List Fr) (r : List Nat) (k : Nat) (n e : Int) (hf : ∀ f ∈ l, f.fine) (h : row l n e = true) (hk : l.length ≤ k) :
    ∃ n' e', scan k (put l ++ r) n e = l ++ scan (k - l.length) r n' e' ∧ n' = n + l.length ∧ (l = [] → e' = e) ∧ (∀ f, l.getLast? = some f → e' = f.e) := by
  induction l generalizing k n e with
  | nil => exact ⟨n, e, by simp [put], by simp, fun _ => rfl, by simp⟩
  | cons f l ih =>
    obtain ⟨h1, h2, h3, h4⟩ := (row_cons _ _ _ _).1 h
    cases k with
    | zero => simp at hk
    | succ k =>
      have ht : (put (f :: l) ++ r).take 72 = enc f := by
        rw [put_cons, List.append_assoc, List.take_append_of_le_length (by rw [enc_len]; omega), List.take_of_length_le (by rw [enc_len]; omega)]
      have hdr : (put (f :: l) ++ r).drop 72 = put l ++ r := by
        rw [put_cons, List.append_assoc, List.drop_append_of_le_length (by rw [enc_len]; omega), List.drop_of_length_le (by rw [enc_len]; omega), List.nil_append]
      have hde := dec_enc f (hf f (by simp)) h1
      obtain ⟨n', e', q1, q2, q3, q4⟩ := ih k (n + 1) f.e (fun g hg => hf g (by simp [hg])) h4 (by simp at hk; omega)
      refine ⟨n', e', ?_, by rw [q2, List.length_cons]; omega, by simp, ?_⟩
      · simp only [scan]
        rw [ht, hde, hdr, if_pos ⟨by rw [List.length_append, put_len, List.length_cons]; omega, rfl, h2, h3⟩, q1]
        simp
      · intro g hg
        cases l with
        | nil => simp at hg; subst hg; exact q3 rfl
        | cons f2 l2 => exact q4 g (by rw [List.getLast?_cons_cons] at hg; exact hg)

/-- cut off within a frame's bytes: those that are whole. -/
theorem scan_cut (l : List Fr) (c k : Nat) (n e : Int) (hf : ∀ f ∈ l, f.fine) (h : row l n e = true) (hc : c ≤ 72 * l.length) (hk : l.length ≤ k) :
    scan k ((put l).take c) n e = l.take (c / 72) := by
  induction l generalizing c k n e with
  | nil => simp [put]; exact scan_short (by simp) _ _ _
  | cons f l ih =>
    obtain ⟨h1, h2, h3, h4⟩ := (row_cons _ _ _ _).1 h
    by_cases h72 : c < 72
    · rw [show c / 72 = 0 by omega, List.take_zero]
      exact scan_short (by rw [List.length_take]; omega) _ _ _
    · cases k with
      | zero => simp at hk
      | succ k =>
        simp only [List.length_cons] at hc hk
        have hp := put_len (f :: l)
        simp only [List.length_cons] at hp
        have ht : ((put (f :: l)).take c).take 72 = enc f := by
          rw [List.take_take, show min 72 c = 72 by omega, put_cons, List.take_append_of_le_length (by rw [enc_len]; omega), List.take_of_length_le (by rw [enc_len]; omega)]
        have hdr : ((put (f :: l)).take c).drop 72 = (put l).take (c - 72) := by
          rw [List.drop_take, put_cons, List.drop_append_of_le_length (by rw [enc_len]; omega), List.drop_of_length_le (by rw [enc_len]; omega), List.nil_append]
        have hde := dec_enc f (hf f (by simp)) h1
        simp only [scan]
        rw [ht, hde, hdr, if_pos ⟨by rw [List.length_take]; omega, rfl, h2, h3⟩]
        simp only
        rw [ih (c - 72) k (n + 1) f.e (fun g hg => hf g (by simp [hg])) h4 (by omega) (by omega), show c / 72 = (c - 72) / 72 + 1 by omega, List.take_succ_cons]
/-- more at most than there is room for is no more. -/
theorem scan_len (k : Nat) (b : List Nat) (n e : Int) : 72 * (scan k b n e).length ≤ b.length := by
  induction k generalizing b n e with
  | zero => simp [scan]
  | succ k ih =>
    simp only [scan]
    split
    · rename_i h
      have := ih (b.drop 72) (n + 1) (dec (b.take 72)).2.e
      rw [List.length_drop] at this
      rw [List.length_cons]
      omega
    · simp

theorem scan_fuel (k j : Nat) (b : List Nat) (n e : Int) (hk : b.length < 72 * (k + 1)) (hj : b.length < 72 * (j + 1)) : scan k b n e = scan j b n e := by
  induction k generalizing j b n e with
  | zero => rw [scan_short (by omega), scan_short (by omega)]
  | succ k ih =>
    cases j with
    | zero => rw [scan_short (by omega), scan_short (by omega)]
    | succ j =>
      simp only [scan]
      rw [ih j (b.drop 72) (n + 1) (dec (b.take 72)).2.e (by rw [List.length_drop]; omega) (by rw [List.length_drop]; omega)]
/-- two rows, one behind the other. -/
def last : List Fr → Int → Int
  | [], e => e
  | f :: l, _ => last l f.e
theorem last_cons (f : Fr) (l : List Fr) (e : Int) : last (f :: l) e = last l f.e := rfl
theorem last_get (l : List Fr) (f : Fr) (e : Int) (h : l.getLast? = some f) : last l e = f.e := by
  induction l generalizing e with
  | nil => simp at h
  | cons g l ih =>
    cases l with
    | nil => simp at h; subst h; rfl
    | cons g2 l2 => exact ih g.e (by rw [List.getLast?_cons_cons] at h; exact h)
theorem row_append (l m : List Fr) (n e : Int) : row (l ++ m) n e = (row l n e && row m (n + l.length) (last l e)) := by
  induction l generalizing n e with
  | nil => simp [row, last]
  | cons f l ih =>
    simp only [List.cons_append, row]
    rw [ih (n + 1) f.e, last_cons, List.length_cons, show n + 1 + (l.length : Int) = n + ((l.length + 1 : Nat) : Int) by omega]
    simp [Bool.and_assoc]

theorem scan_puts (l : List Fr) (r : List Nat) (k : Nat) (n e : Int) (hf : ∀ f ∈ l, f.fine) (h : row l n e = true) (hk : l.length ≤ k) : scan k (put l ++ r) n e = l ++ scan (k - l.length) r (n + l.length) (last l e) := by
  obtain ⟨n', e', q1, q2, q3, q4⟩ := scan_put l r k n e hf h hk
  have : e' = last l e := by
    cases l with
    | nil => exact q3 rfl
    | cons f l =>
      obtain ⟨g, hg⟩ : ∃ g, (f :: l).getLast? = some g := by
        cases hh : (f :: l).getLast? with
        | none => simp at hh
        | some g => exact ⟨g, rfl⟩
      rw [q4 g hg, last_get _ g e hg]
  rw [q1, q2, this]
theorem turn_take (x y : List Nat) (m : Nat) : (crc.turn x y).take m = crc.turn (x.take m) (y.take m) := by
  simp [crc.turn, List.take_zipWith]
theorem turn_drop (x y : List Nat) (m : Nat) : (crc.turn x y).drop m = crc.turn (x.drop m) (y.drop m) := by
  simp [crc.turn, List.drop_zipWith]
/-- frames in a row whose bytes are changed within four that follow one another are read up to the one in which the first changed byte stands. -/
theorem scan_turned (l : List Fr) (p r k d : Nat) (ds : List Nat) (n e : Int) (hf : ∀ f ∈ l, f.fine) (h : row l n e = true) (hl : p + (ds.length + 1) + r = 72 * l.length) (hd : d ≠ 0) (h4 : ds.length + 1 ≤ 4) (hb : ∀ x ∈ d :: ds, x < 256) (hk : l.length ≤ k) :
    scan k (crc.turn (put l) (List.replicate p 0 ++ (d :: ds) ++ List.replicate r 0)) n e = l.take (p / 72) := by
  induction l generalizing p k n e with
  | nil => simp at hl
  | cons f l ih =>
    obtain ⟨h1, h2, h3, h5⟩ := (row_cons _ _ _ _).1 h
    cases k with
    | zero => simp at hk
    | succ k =>
      simp only [List.length_cons] at hl hk
      have hx : (put (f :: l)).take 72 = enc f := by
        rw [put_cons, List.take_append_of_le_length (by rw [enc_len]; omega), List.take_of_length_le (by rw [enc_len]; omega)]
      have hxd : (put (f :: l)).drop 72 = put l := by
        rw [put_cons, List.drop_append_of_le_length (by rw [enc_len]; omega), List.drop_of_length_le (by rw [enc_len]; omega), List.nil_append]
      by_cases hp : 72 ≤ p
      · have ht : (crc.turn (put (f :: l)) (List.replicate p 0 ++ (d :: ds) ++ List.replicate r 0)).take 72 = enc f := by
          rw [turn_take, hx, List.append_assoc, List.take_append_of_le_length (by simp; omega), List.take_replicate, show min 72 p = (enc f).length by rw [enc_len]; omega, crc.turn_zeros]
        have hdr : (crc.turn (put (f :: l)) (List.replicate p 0 ++ (d :: ds) ++ List.replicate r 0)).drop 72 = crc.turn (put l) (List.replicate (p - 72) 0 ++ (d :: ds) ++ List.replicate r 0) := by
          rw [turn_drop, hxd, List.append_assoc, List.drop_append_of_le_length (by simp; omega), List.drop_replicate, List.append_assoc]
        have hlen : (crc.turn (put (f :: l)) (List.replicate p 0 ++ (d :: ds) ++ List.replicate r 0)).length = 72 * (l.length + 1) := by
          rw [crc.turn_len _ _ (by rw [put_len]; simp; omega), put_len, List.length_cons]
        have hde := dec_enc f (hf f (by simp)) h1
        simp only [scan]
        rw [ht, hde, hdr, if_pos ⟨by rw [hlen]; omega, rfl, h2, h3⟩]
        simp only
        rw [ih (p - 72) k (n + 1) f.e (fun g hg => hf g (by simp [hg])) h5 (by omega) (by omega), show p / 72 = (p - 72) / 72 + 1 by omega, List.take_succ_cons]
      · have hj : ∃ j, j = min (ds.length + 1) (72 - p) ∧ 1 ≤ j := ⟨_, rfl, by omega⟩
        obtain ⟨j, hj, hj1⟩ := hj
        have ht : (crc.turn (put (f :: l)) (List.replicate p 0 ++ (d :: ds) ++ List.replicate r 0)).take 72 = crc.turn (enc f) (crc.amid p j (72 - p - j) (d :: ds)) := by
          rw [turn_take, hx]
          congr 1
          unfold crc.amid
          rw [List.append_assoc, List.take_append, List.take_of_length_le (by simp; omega), List.append_assoc, List.take_append]
          simp only [List.length_replicate, List.length_cons, List.take_replicate]
          congr 1
          by_cases hc : ds.length + 1 ≤ 72 - p
          · rw [show j = ds.length + 1 by omega, List.take_of_length_le (by simp; omega), List.take_of_length_le (l := d :: ds) (i := ds.length + 1) (by simp)]
            congr 2
            omega
          · rw [show j = 72 - p by omega, show min (72 - p - (ds.length + 1)) r = 0 by omega, show 72 - p - (72 - p) = 0 by omega]
        have hno : (dec ((crc.turn (put (f :: l)) (List.replicate p 0 ++ (d :: ds) ++ List.replicate r 0)).take 72)).1 ≠ 0 := by
          rw [ht]
          intro h0
          have := (dec_turned f (hf f (by simp)) h1 p j (d :: ds) (by omega) (by simp; omega) hb (by omega)).1 h0
          obtain ⟨j', rfl⟩ : ∃ j', j = j' + 1 := ⟨j - 1, by omega⟩
          exact hd (this d (by simp))
        simp only [scan]
        rw [if_neg (fun hh => hno hh.2.1), show p / 72 = 0 by omega, List.take_zero]

end Go.Proofs.Ytegbaidnkniccaa.scan
