/-
  CrcMath
-/
namespace Go.Proofs.Ytaagpldanbjacaa.crc

/-- one place down. -/
def down (x : Nat) : Nat := if x % 2 = 1 then (x / 2) ^^^ 3988292384 else x / 2
def downs : Nat → Nat → Nat
  | 0, x => x
  | k + 1, x => downs k (down x)
/-- a byte comes to it. -/
def byte (x b : Nat) : Nat := downs 8 (x ^^^ b)
def bytes (x : Nat) (l : List Nat) : Nat := l.foldl byte x
/-- what the sum would be, behind bytes of that sum. -/
def more (s : Nat) (l : List Nat) : Nat := bytes (s ^^^ 4294967295) l ^^^ 4294967295

theorem down_even (x : Nat) (h : x % 2 = 0) : down x = x / 2 := by unfold down; rw [if_neg (by omega)]
theorem down_odd (x : Nat) (h : x % 2 = 1) : down x = (x / 2) ^^^ 3988292384 := by unfold down; rw [if_pos h]

theorem xor_lt {a b : Nat} (ha : a < 4294967296) (hb : b < 4294967296) : a ^^^ b < 4294967296 := Nat.xor_lt_two_pow (n := 32) ha hb
theorem down_lt {x : Nat} (h : x < 4294967296) : down x < 4294967296 := by
  rcases Nat.mod_two_eq_zero_or_one x with e | e
  · rw [down_even x e]; omega
  · rw [down_odd x e]; exact xor_lt (by omega) (by omega)
theorem downs_lt (k : Nat) {x : Nat} (h : x < 4294967296) : downs k x < 4294967296 := by
  induction k generalizing x with
  | zero => exact h
  | succ k ih => exact ih (down_lt h)
theorem byte_lt {x b : Nat} (h : x < 4294967296) (hb : b < 4294967296) : byte x b < 4294967296 := downs_lt 8 (xor_lt h hb)
theorem bytes_lt (l : List Nat) {x : Nat} (h : x < 4294967296) (hl : ∀ b ∈ l, b < 4294967296) : bytes x l < 4294967296 := by
  induction l generalizing x with
  | nil => exact h
  | cons b l ih => exact ih (byte_lt h (hl b (by simp))) (fun c hc => hl c (by simp [hc]))
theorem more_lt (l : List Nat) {s : Nat} (h : s < 4294967296) (hl : ∀ b ∈ l, b < 4294967296) : more s l < 4294967296 :=
  xor_lt (bytes_lt l (xor_lt h (by omega)) hl) (by omega)

theorem xor_mod2 (a b : Nat) : (a ^^^ b) % 2 = (a % 2) ^^^ (b % 2) := by
  have := Nat.xor_mod_two_pow (a := a) (b := b) (n := 1)
  simpa using this
theorem xor_div2 (a b : Nat) : (a ^^^ b) / 2 = (a / 2) ^^^ (b / 2) := by
  have := Nat.shiftRight_xor_distrib (a := a) (b := b) (i := 1)
  simpa [Nat.shiftRight_eq_div_pow] using this

theorem down_xor (a b : Nat) : down (a ^^^ b) = down a ^^^ down b := by
  have hm := xor_mod2 a b
  rcases Nat.mod_two_eq_zero_or_one a with ea | ea <;> rcases Nat.mod_two_eq_zero_or_one b with eb | eb <;> rw [ea, eb] at hm
  · rw [down_even _ hm, down_even _ ea, down_even _ eb, xor_div2]
  · rw [down_odd _ hm, down_even _ ea, down_odd _ eb, xor_div2, Nat.xor_assoc]
  · rw [down_odd _ hm, down_odd _ ea, down_even _ eb, xor_div2, Nat.xor_assoc, Nat.xor_assoc, Nat.xor_comm (b / 2)]
  · rw [down_even _ (by simpa using hm), down_odd _ ea, down_odd _ eb, xor_div2]
    rw [Nat.xor_assoc, ← Nat.xor_assoc 3988292384, Nat.xor_comm 3988292384 (b / 2), Nat.xor_assoc (b / 2), Nat.xor_self, Nat.xor_zero]
theorem downs_xor (k a b : Nat) : downs k (a ^^^ b) = downs k a ^^^ downs k b := by
  induction k generalizing a b with
  | zero => rfl
  | succ k ih => show downs k (down (a ^^^ b)) = _; rw [down_xor, ih]; rfl
theorem xor_swap (a b c d : Nat) : (a ^^^ b) ^^^ (c ^^^ d) = (a ^^^ c) ^^^ (b ^^^ d) := by
  rw [Nat.xor_assoc, Nat.xor_assoc, ← Nat.xor_assoc b, ← Nat.xor_assoc c, Nat.xor_comm b c]
theorem byte_xor (a b c d : Nat) : byte (a ^^^ b) (c ^^^ d) = byte a c ^^^ byte b d := by
  unfold byte
  rw [xor_swap, downs_xor]
/-- two texts turned together. -/
def turn (l m : List Nat) : List Nat := List.zipWith (· ^^^ ·) l m
theorem bytes_xor (l m : List Nat) (h : l.length = m.length) (a b : Nat) : bytes (a ^^^ b) (turn l m) = bytes a l ^^^ bytes b m := by
  induction l generalizing m a b with
  | nil => cases m with
    | nil => rfl
    | cons _ _ => cases h
  | cons x l ih => cases m with
    | nil => cases h
    | cons y m =>
      show bytes (byte (a ^^^ b) (x ^^^ y)) (turn l m) = _
      rw [byte_xor, ih m (by simpa using h)]
      rfl

/-- the bit that falls out is seen in the highest one. -/
theorem down_high {x : Nat} (hx : x < 4294967296) : x % 2 = down x / 2147483648 ∧ (x % 2 = 0 → x = 2 * down x) := by
  rcases Nat.mod_two_eq_zero_or_one x with e | e
  · rw [down_even x e]; omega
  · refine ⟨?_, by omega⟩
    rw [down_odd x e, e]
    have h1 : ((x / 2) ^^^ 3988292384) / 2147483648 = ((x / 2) / 2147483648) ^^^ (3988292384 / 2147483648) := by
      have := Nat.shiftRight_xor_distrib (a := x / 2) (b := 3988292384) (i := 31)
      simpa [Nat.shiftRight_eq_div_pow] using this
    rw [h1, show x / 2 / 2147483648 = 0 by omega]
    decide
/-- one place down can be undone. -/
theorem down_zero {x : Nat} (hx : x < 4294967296) (h : down x = 0) : x = 0 := by
  have := down_high hx
  rw [h] at this
  have h0 := this.1
  simp at h0
  have := this.2 h0
  omega
theorem downs_zero (k : Nat) {x : Nat} (hx : x < 4294967296) (h : downs k x = 0) : x = 0 := by
  induction k generalizing x with
  | zero => exact h
  | succ k ih => exact down_zero hx (ih (down_lt hx) h)
theorem downs_of_zero (k : Nat) : downs k 0 = 0 := by
  induction k with
  | zero => rfl
  | succ k ih => exact ih
theorem xor_eq_zero {a b : Nat} (h : a ^^^ b = 0) : a = b := by
  have : a ^^^ b ^^^ b = b := by rw [h, Nat.zero_xor]
  rwa [Nat.xor_assoc, Nat.xor_self, Nat.xor_zero] at this
theorem downs_inj (k : Nat) {a b : Nat} (ha : a < 4294967296) (hb : b < 4294967296) (h : downs k a = downs k b) : a = b := by
  apply xor_eq_zero
  apply downs_zero k (xor_lt ha hb)
  rw [downs_xor, h, Nat.xor_self]
theorem byte_inj {a b c : Nat} (ha : a < 4294967296) (hb : b < 4294967296) (hc : c < 4294967296) (h : byte a c = byte b c) : a = b := by
  have := downs_inj 8 (xor_lt ha hc) (xor_lt hb hc) h
  have h2 : a ^^^ c ^^^ c = b ^^^ c ^^^ c := by rw [this]
  simpa [Nat.xor_assoc, Nat.xor_self, Nat.xor_zero] using h2
theorem bytes_inj (l : List Nat) (hl : ∀ b ∈ l, b < 4294967296) {a b : Nat} (ha : a < 4294967296) (hb : b < 4294967296) (h : bytes a l = bytes b l) : a = b := by
  induction l generalizing a b with
  | nil => exact h
  | cons x l ih =>
    have hx := hl x (by simp)
    exact byte_inj ha hb hx (ih (fun c hc => hl c (by simp [hc])) (byte_lt ha hx) (byte_lt hb hx) h)
theorem xor_back (a b : Nat) : a ^^^ b ^^^ b = a := by rw [Nat.xor_assoc, Nat.xor_self, Nat.xor_zero]
theorem xor_right_inj {a b c : Nat} (h : a ^^^ c = b ^^^ c) : a = b := by
  rw [← xor_back a c, h, xor_back]
theorem more_inj (l : List Nat) (hl : ∀ b ∈ l, b < 4294967296) {a b : Nat} (ha : a < 4294967296) (hb : b < 4294967296) (h : more a l = more b l) : a = b :=
  xor_right_inj (bytes_inj l hl (xor_lt ha (by omega)) (xor_lt hb (by omega)) (xor_right_inj h))

theorem bytes_append (x : Nat) (l m : List Nat) : bytes x (l ++ m) = bytes (bytes x l) m := by unfold bytes; rw [List.foldl_append]
theorem more_append (s : Nat) (l m : List Nat) : more s (l ++ m) = more (more s l) m := by
  unfold more
  rw [bytes_append, xor_back]
theorem more_nil (s : Nat) : more s [] = s := xor_back s _

/-- four texts whose bytes turned together come to none. -/
theorem more_turns (l m n : List Nat) (h1 : l.length = m.length) (h2 : m.length = n.length) : more 0 l ^^^ more 0 m ^^^ more 0 n ^^^ more 0 (turn (turn l m) n) = 0 := by
  have e : bytes (0 ^^^ 4294967295) (turn (turn l m) n) = bytes (0 ^^^ 4294967295) l ^^^ bytes (0 ^^^ 4294967295) m ^^^ bytes (0 ^^^ 4294967295) n := by
    have a := bytes_xor (turn l m) n (by simp [turn]; omega) (4294967295 ^^^ 4294967295) 4294967295
    rw [bytes_xor l m h1] at a
    simpa using a
  unfold more
  rw [e]
  generalize bytes (0 ^^^ 4294967295) l = a
  generalize bytes (0 ^^^ 4294967295) m = b
  generalize bytes (0 ^^^ 4294967295) n = c
  rw [xor_swap a 4294967295 b 4294967295, Nat.xor_self, Nat.xor_zero]
  rw [Nat.xor_assoc (a ^^^ b), xor_swap c 4294967295, Nat.xor_self, Nat.xor_zero, Nat.xor_comm c, Nat.xor_assoc (a ^^^ b), Nat.xor_self, Nat.xor_zero, Nat.xor_self]

/-- a row that is turned from its beginning on, one place more. -/
theorem mix_set (T X : List Nat) (i x : Nat) (hl : T.length = X.length) (h : T[i]? = some x) : (T.take i ++ X.drop i).set i x = T.take (i + 1) ++ X.drop (i + 1) := by
  obtain ⟨hi, rfl⟩ := List.getElem?_eq_some_iff.1 h
  have e : (T.take i).length = i := by rw [List.length_take]; omega
  rw [List.set_append_right _ _ (by omega), e, Nat.sub_self, List.drop_eq_getElem_cons (show i < X.length by omega), List.set_cons_zero, List.take_succ_eq_append_getElem hi, List.append_assoc]
  rfl
theorem turn_at {l m : List Nat} {i x y : Nat} (h : l[i]? = some x) (g : m[i]? = some y) : (turn l m)[i]? = some (x ^^^ y) := by
  unfold turn
  rw [List.getElem?_zipWith, h, g]
theorem turn_len (l m : List Nat) (h : l.length = m.length) : (turn l m).length = l.length := by simp [turn]; omega

theorem turn_set (l m : List Nat) (i p v : Nat) (h : l[i]? = some p) : turn l (m.set i v) = (turn l m).set i (p ^^^ v) := by
  induction l generalizing m i with
  | nil => simp at h
  | cons x l ih =>
    cases m with
    | nil => simp [turn]
    | cons y m =>
      cases i with
      | zero => simp at h; subst h; rfl
      | succ i =>
        have := ih m i (by simpa using h)
        unfold turn at this ⊢
        simp only [List.set_cons_succ, List.zipWith_cons_cons, this]
theorem turn_zeros (l : List Nat) : turn l (List.replicate l.length 0) = l := by
  induction l with
  | nil => rfl
  | cons x l ih =>
    unfold turn at ih ⊢
    simp only [List.length_cons, List.replicate_succ, List.zipWith_cons_cons, ih, Nat.xor_zero]

/-- nothing, k of some bytes, nothing. -/
def amid (f k m : Nat) (ys : List Nat) : List Nat := List.replicate f 0 ++ ys.take k ++ List.replicate m 0
theorem amid_zero (f m : Nat) (ys : List Nat) : amid f 0 m ys = List.replicate (f + m) 0 := by
  unfold amid
  rw [List.take_zero, List.append_nil, List.replicate_append_replicate]
theorem amid_step (f k m y : Nat) (ys : List Nat) (h : ys[k]? = some y) : amid f (k + 1) m ys = (amid f k (m + 1) ys).set (f + k) y := by
  obtain ⟨hk, rfl⟩ := List.getElem?_eq_some_iff.1 h
  unfold amid
  have e : (List.replicate f 0 ++ ys.take k).length = f + k := by simp; omega
  rw [List.set_append_right _ _ (by omega), e, Nat.sub_self, List.replicate_succ, List.set_cons_zero, List.take_succ_eq_append_getElem hk]
  simp only [List.append_assoc]
  rfl
theorem amid_len (f k m : Nat) (ys : List Nat) (h : k ≤ ys.length) : (amid f k m ys).length = f + k + m := by unfold amid; simp; omega

/-- where nothing is high behind k places, nothing fell out. -/
theorem downs_shift (k : Nat) {x : Nat} (hk : k ≤ 32) (hx : x < 4294967296) (h : downs k x < 2 ^ (32 - k)) : x = 2 ^ k * downs k x := by
  induction k generalizing x with
  | zero => simp [downs]
  | succ k ih =>
    have hd := down_lt hx
    have h' : downs k (down x) < 2 ^ (32 - (k + 1)) := h
    have hle : 2 ^ (32 - (k + 1)) ≤ 2 ^ (32 - k) := Nat.pow_le_pow_right (by omega) (by omega)
    have e := ih (by omega) hd (by omega)
    have hm : 2 ^ k * downs k (down x) < 2 ^ k * 2 ^ (32 - (k + 1)) := (Nat.mul_lt_mul_left (Nat.two_pow_pos k)).2 h'
    rw [← Nat.pow_add, show k + (32 - (k + 1)) = 31 by omega] at hm
    have hh := down_high hx
    have h31 : down x < 2147483648 := by rw [e]; simpa using hm
    have h0 : x % 2 = 0 := by rw [hh.1]; omega
    have hx2 := hh.2 h0
    show x = 2 ^ (k + 1) * downs k (down x)
    rw [Nat.pow_succ, Nat.mul_comm (2 ^ k) 2, Nat.mul_assoc, ← e]
    exact hx2
theorem byte_shift {x b : Nat} (hx : x < 4294967296) (hb : b < 256) (h : byte x b < 16777216) : x ^^^ b = 256 * byte x b := by
  have := downs_shift 8 (x := x ^^^ b) (by omega) (xor_lt hx (by omega)) (by simpa [byte] using h)
  simpa [byte] using this
theorem byte_zero (x : Nat) (b : Nat) (hx : x < 4294967296) (hb : b < 256) (h : byte x b = 0) : x = b := by
  have := byte_shift hx hb (by omega)
  rw [h] at this
  exact xor_eq_zero this
theorem xor_lt_pow (n : Nat) {a b : Nat} (ha : a < 2 ^ n) (hb : b < 2 ^ n) : a ^^^ b < 2 ^ n := Nat.xor_lt_two_pow ha hb

/-- one step back: a register below 2^n behind a byte was below 2^(n+8) ahead of it, and turned by the byte it is 256 times as much. -/
theorem back (n : Nat) (hn : n ≤ 24) {x b : Nat} (hx : x < 4294967296) (hb : b < 256) (h : byte x b < 2 ^ n) : x ^^^ b = 256 * byte x b ∧ x < 2 ^ (n + 8) := by
  have hle : 2 ^ n ≤ 2 ^ 24 := Nat.pow_le_pow_right (by omega) hn
  have e := byte_shift hx hb (by have : (2 : Nat) ^ 24 = 16777216 := by decide
                                 omega)
  refine ⟨e, ?_⟩
  have h1 : x = (256 * byte x b) ^^^ b := by rw [← e, xor_back]
  rw [h1]
  apply xor_lt_pow
  · rw [Nat.pow_add, Nat.mul_comm]; simp; exact h
  · exact Nat.lt_of_lt_of_le hb (by rw [show (256 : Nat) = 2 ^ 8 by rfl]; exact Nat.pow_le_pow_right (by omega) (by omega))

/-- up to four bytes from nothing come to nothing just if all are 0. -/
theorem burst (l : List Nat) (hlen : l.length ≤ 4) (hl : ∀ b ∈ l, b < 256) (h : bytes 0 l = 0) : ∀ b ∈ l, b = 0 := by
  have step : ∀ x b, x = 0 → x ^^^ b = 256 * byte x b → b < 256 → b = 0 ∧ byte x b = 0 := by
    intro x b hx e hb
    subst hx
    rw [Nat.zero_xor] at e
    omega
  match l, hlen with
  | [], _ => intro b hb; cases hb
  | [a], _ =>
    have h0 := byte_zero 0 a (by omega) (hl a (by simp)) h
    intro b hb; simp at hb; omega
  | [a, b], _ =>
    have ha := hl a (by simp)
    have hb := hl b (by simp)
    have l1 := byte_lt (x := 0) (b := a) (by omega) (by omega)
    have q2 := byte_zero (byte 0 a) b l1 hb h
    have q1 := back 8 (by omega) (x := 0) (b := a) (by omega) ha (by rw [q2]; exact hb)
    have s1 := step 0 a rfl q1.1 ha
    intro c hc; simp at hc; omega
  | [a, b, c], _ =>
    have ha := hl a (by simp)
    have hb := hl b (by simp)
    have hc := hl c (by simp)
    have l1 := byte_lt (x := 0) (b := a) (by omega) (by omega)
    have l2 := byte_lt (b := b) l1 (by omega)
    have q3 := byte_zero (byte (byte 0 a) b) c l2 hc h
    have q2 := back 8 (by omega) l1 hb (by rw [q3]; exact hc)
    have q1 := back 16 (by omega) (x := 0) (b := a) (by omega) ha q2.2
    have s1 := step 0 a rfl q1.1 ha
    have s2 := step _ b s1.2 q2.1 hb
    intro d hd; simp at hd; omega
  | [a, b, c, d], _ =>
    have ha := hl a (by simp)
    have hb := hl b (by simp)
    have hc := hl c (by simp)
    have hd := hl d (by simp)
    have l1 := byte_lt (x := 0) (b := a) (by omega) (by omega)
    have l2 := byte_lt (b := b) l1 (by omega)
    have l3 := byte_lt (b := c) l2 (by omega)
    have q4 := byte_zero _ d l3 hd h
    have q3 := back 8 (by omega) l2 hc (by rw [q4]; exact hd)
    have q2 := back 16 (by omega) l1 hb q3.2
    have q1 := back 24 (by omega) (x := 0) (b := a) (by omega) ha q2.2
    have s1 := step 0 a rfl q1.1 ha
    have s2 := step _ b s1.2 q2.1 hb
    have s3 := step _ c s2.2 q3.1 hc
    intro x hx; simp at hx; omega
  | a :: b :: c :: d :: e :: r, hlen => simp at hlen

theorem bytes_zeros (l : List Nat) (h : ∀ b ∈ l, b = 0) : bytes 0 l = 0 := by
  induction l with
  | nil => rfl
  | cons b l ih =>
    have := h b (by simp)
    subst this
    show bytes (byte 0 0) l = 0
    rw [show byte 0 0 = 0 from downs_of_zero 8]
    exact ih (fun c hc => h c (by simp [hc]))

/-- bytes turned within four that follow one another have another sum, if one of these turns. -/
theorem more_burst (l p d r : List Nat) (hd : d.length ≤ 4) (hp : ∀ b ∈ p, b = 0) (hdb : ∀ b ∈ d, b < 256) (hr : ∀ b ∈ r, b = 0) (hlen : l.length = p.length + d.length + r.length) :
    more 0 (turn l (p ++ d ++ r)) = more 0 l ↔ ∀ b ∈ d, b = 0 := by
  have e : bytes (0 ^^^ 4294967295) (turn l (p ++ d ++ r)) = bytes (0 ^^^ 4294967295) l ^^^ bytes 0 (p ++ d ++ r) := by
    have := bytes_xor l (p ++ d ++ r) (by simp; omega) (0 ^^^ 4294967295) 0
    simpa using this
  have e2 : bytes 0 (p ++ d ++ r) = bytes (bytes 0 d) r := by rw [bytes_append, bytes_append, bytes_zeros p hp]
  constructor
  · intro h
    have h1 := xor_right_inj h
    rw [e] at h1
    have h2 : bytes 0 (p ++ d ++ r) = 0 := by
      have := congrArg (fun t => bytes (0 ^^^ 4294967295) l ^^^ t) h1
      simp only [← Nat.xor_assoc, Nat.xor_self, Nat.zero_xor] at this
      exact this
    rw [e2] at h2
    have h3 : bytes 0 d = 0 := bytes_inj r (fun b hb => by rw [hr b hb]; omega) (bytes_lt d (by omega) (fun b hb => by have := hdb b hb; omega)) (by omega) (by rw [h2, bytes_zeros r hr])
    exact burst d hd hdb h3
  · intro h
    unfold more
    rw [e, e2, bytes_zeros d h, bytes_zeros r hr, Nat.xor_zero]

end Go.Proofs.Ytaagpldanbjacaa.crc
