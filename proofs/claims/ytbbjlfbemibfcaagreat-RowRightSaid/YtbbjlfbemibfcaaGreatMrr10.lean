/-
  zfi, Z5, zfj, zfk, zcv, Z7
-/
set_option linter.unusedVariables false
set_option linter.unusedSimpArgs false
section
namespace Go.Proofs.YtbbjlfbemibfcaaGreat.crc
set_option maxRecDepth 20000

/-- one place down. -/
def down (x:Nat):Nat:=if x % 2=1 then (x / 2) ^^^ 3988292384 else x / 2
def qc3:Nat→Nat→Nat
  | 0,x=>x
  | k+1,x=>qc3 k (down x)
/-- a byte comes to it. -/
def byte (x b:Nat):Nat:=qc3 8 (x ^^^ b)
def bytes (x:Nat) (l:List Nat):Nat:=l.foldl byte x
/-- what the sum would be,behind bytes of that sum. -/
def more (s:Nat) (l:List Nat):Nat:=bytes (s ^^^ 4294967295) l ^^^ 4294967295

theorem Ui (x:Nat) (h:x % 2=0):down x=x / 2:=by unfold down;rw [if_neg (by omega)]
theorem Uj (x:Nat) (h:x % 2=1):down x=(x / 2) ^^^ 3988292384:=by unfold down;rw [if_pos h]

theorem Xa {a b:Nat} (ha:a < 4294967296) (hb:b < 4294967296):a ^^^ b < 4294967296:=Nat.xor_lt_two_pow (n:=32) ha hb
theorem qpq {x:Nat} (h:x < 4294967296):down x < 4294967296:=by
  rcases Nat.mod_two_eq_zero_or_one x with e | e
  · rw [Ui x e];omega
  · rw [Uj x e];exact Xa (by omega) (by omega)
theorem q1o (k:Nat) {x:Nat} (h:x < 4294967296):qc3 k x < 4294967296:=by
  induction k generalizing x with
  | zero=>exact h
  | succ k ih=>exact ih (qpq h)
theorem Uk {x b:Nat} (h:x < 4294967296) (hb:b < 4294967296):byte x b < 4294967296:=q1o 8 (Xa h hb)
theorem qsi (l:List Nat) {x:Nat} (h:x < 4294967296) (hl:∀ b ∈ l,b < 4294967296):bytes x l < 4294967296:=by
  induction l generalizing x with
  | nil=>exact h
  | cons b l ih=>exact ih (Uk h (hl b (by simp))) (fun c hc=>hl c (by simp [hc]))
theorem Fp (l:List Nat) {s:Nat} (h:s < 4294967296) (hl:∀ b ∈ l,b < 4294967296):more s l < 4294967296 :=
  Xa (qsi l (Xa h (by omega)) hl) (by omega)

theorem q1p (a b:Nat):(a ^^^ b) % 2=(a % 2) ^^^ (b % 2):=by
  have:=Nat.xor_mod_two_pow (a:=a) (b:=b) (n:=1)
  simpa using this
theorem qk4 (a b:Nat):(a ^^^ b) / 2=(a / 2) ^^^ (b / 2):=by
  have:=Nat.shiftRight_xor_distrib (a:=a) (b:=b) (i:=1)
  simpa [Nat.shiftRight_eq_div_pow] using this

theorem q1q (a b:Nat):down (a ^^^ b)=down a ^^^ down b:=by
  have hm:=q1p a b
  rcases Nat.mod_two_eq_zero_or_one a with ea | ea<;>rcases Nat.mod_two_eq_zero_or_one b with eb | eb<;>rw [ea,eb] at hm
  · rw [Ui _ hm,Ui _ ea,Ui _ eb,qk4]
  · rw [Uj _ hm,Ui _ ea,Uj _ eb,qk4,Nat.xor_assoc]
  · rw [Uj _ hm,Uj _ ea,Ui _ eb,qk4,Nat.xor_assoc,Nat.xor_assoc,Nat.xor_comm (b / 2)]
  · rw [Ui _ (by simpa using hm),Uj _ ea,Uj _ eb,qk4]
    rw [Nat.xor_assoc,← Nat.xor_assoc 3988292384,Nat.xor_comm 3988292384 (b / 2),Nat.xor_assoc (b / 2),Nat.xor_self,Nat.xor_zero]
theorem qqw (k a b:Nat):qc3 k (a ^^^ b)=qc3 k a ^^^ qc3 k b:=by
  induction k generalizing a b with
  | zero=>rfl
  | succ k ih=>show qc3 k (down (a ^^^ b))=_;rw [q1q,ih];rfl
theorem q1r (a b c d:Nat):(a ^^^ b) ^^^ (c ^^^ d)=(a ^^^ c) ^^^ (b ^^^ d):=by
  rw [Nat.xor_assoc,Nat.xor_assoc,← Nat.xor_assoc b,← Nat.xor_assoc c,Nat.xor_comm b c]
theorem q1s (a b c d:Nat):byte (a ^^^ b) (c ^^^ d)=byte a c ^^^ byte b d:=by
  unfold byte
  rw [q1r,qqw]
/-- two texts turned together. -/
def turn (l m:List Nat):List Nat:=List.zipWith (· ^^^ ·) l m
theorem qqx (l m:List Nat) (h:l.length=m.length) (a b:Nat):bytes (a ^^^ b) (turn l m)=bytes a l ^^^ bytes b m:=by
  induction l generalizing m a b with
  | nil=>cases m with
    | nil=>rfl
    | cons _ _=>cases h
  | cons x l ih=>cases m with
    | nil=>cases h
    | cons y m =>
      show bytes (byte (a ^^^ b) (x ^^^ y)) (turn l m)=_
      rw [q1s,ih m (by simpa using h)]
      rfl

/-- the bit that falls out is seen in the highest one. -/
theorem qqy {x:Nat} (hx:x < 4294967296):x % 2=down x / 2147483648∧(x % 2=0→x=2 * down x):=by
  rcases Nat.mod_two_eq_zero_or_one x with e | e
  · rw [Ui x e];omega
  · refine ⟨?_,by omega⟩
    rw [Uj x e,e]
    have h1:((x / 2) ^^^ 3988292384) / 2147483648=((x / 2) / 2147483648) ^^^ (3988292384 / 2147483648):=by
      have:=Nat.shiftRight_xor_distrib (a:=x / 2) (b:=3988292384) (i:=31)
      simpa [Nat.shiftRight_eq_div_pow] using this
    rw [h1,show x / 2 / 2147483648=0 by omega]
    decide
/-- one place down can be zin. -/
theorem qyi {x:Nat} (hx:x < 4294967296) (h:down x=0):x=0:=by
  have:=qqy hx
  rw [h] at this
  have h0:=this.1
  simp at h0
  have:=this.2 h0
  omega
theorem qw5 (k:Nat) {x:Nat} (hx:x < 4294967296) (h:qc3 k x=0):x=0:=by
  induction k generalizing x with
  | zero=>exact h
  | succ k ih=>exact qyi hx (ih (qpq hx) h)
theorem qrm (k:Nat):qc3 k 0=0:=by
  induction k with
  | zero=>rfl
  | succ k ih=>exact ih
theorem qni {a b:Nat} (h:a ^^^ b=0):a=b:=by
  have:a ^^^ b ^^^ b=b:=by rw [h,Nat.zero_xor]
  rwa [Nat.xor_assoc,Nat.xor_self,Nat.xor_zero] at this
theorem qyj (k:Nat) {a b:Nat} (ha:a < 4294967296) (hb:b < 4294967296) (h:qc3 k a=qc3 k b):a=b:=by
  apply qni
  apply qw5 k (Xa ha hb)
  rw [qqw,h,Nat.xor_self]
theorem q1t {a b c:Nat} (ha:a < 4294967296) (hb:b < 4294967296) (hc:c < 4294967296) (h:byte a c=byte b c):a=b:=by
  have:=qyj 8 (Xa ha hc) (Xa hb hc) h
  have h2:a ^^^ c ^^^ c=b ^^^ c ^^^ c:=by rw [this]
  simpa [Nat.xor_assoc,Nat.xor_self,Nat.xor_zero] using h2
theorem bytes_inj (l:List Nat) (hl:∀ b ∈ l,b < 4294967296) {a b:Nat} (ha:a < 4294967296) (hb:b < 4294967296) (h:bytes a l=bytes b l):a=b:=by
  induction l generalizing a b with
  | nil=>exact h
  | cons x l ih =>
    have hx:=hl x (by simp)
    exact q1t ha hb hx (ih (fun c hc=>hl c (by simp [hc])) (Uk ha hx) (Uk hb hx) h)
theorem qk5 (a b:Nat):a ^^^ b ^^^ b=a:=by rw [Nat.xor_assoc,Nat.xor_self,Nat.xor_zero]
theorem qrn {a b c:Nat} (h:a ^^^ c=b ^^^ c):a=b:=by
  rw [← qk5 a c,h,qk5]
theorem bytes_append (x:Nat) (l m:List Nat):bytes x (l++m)=bytes (bytes x l) m:=by unfold bytes;rw [List.foldl_append]
theorem qul (s:Nat) (l m:List Nat):more s (l++m)=more (more s l) m:=by
  unfold more
  rw [bytes_append,qk5]
/-- where nothing is high behind k places,nothing fell out. -/
theorem qum (k:Nat) {x:Nat} (hk:k≤32) (hx:x < 4294967296) (h:qc3 k x < 2 ^ (32 - k)):x=2 ^ k * qc3 k x:=by
  induction k generalizing x with
  | zero=>simp [qc3]
  | succ k ih =>
    have hd:=qpq hx
    have h' : qc3 k (down x) < 2 ^ (32 - (k+1)):=h
    have hle:2 ^ (32 - (k+1))≤2 ^ (32 - k):=Nat.pow_le_pow_right (by omega) (by omega)
    have e:=ih (by omega) hd (by omega)
    have hm:2 ^ k * qc3 k (down x) < 2 ^ k * 2 ^ (32 - (k+1)):=(Nat.mul_lt_mul_left (Nat.two_pow_pos k)).2 h'
    rw [← Nat.pow_add,show k+(32 - (k+1))=31 by omega] at hm
    have hh:=qqy hx
    have h31:down x < 2147483648:=by rw [e];simpa using hm
    have h0:x % 2=0:=by rw [hh.1];omega
    have hx2:=hh.2 h0
    show x=2 ^ (k+1) * qc3 k (down x)
    rw [Nat.pow_succ,Nat.mul_comm (2 ^ k) 2,Nat.mul_assoc,← e]
    exact hx2
theorem qou {x b:Nat} (hx:x < 4294967296) (hb:b < 256) (h:byte x b < 16777216):x ^^^ b=256 * byte x b:=by
  have:=qum 8 (x:=x ^^^ b) (by omega) (Xa hx (by omega)) (by simpa [byte] using h)
  simpa [byte] using this
theorem byte_zero (x:Nat) (b:Nat) (hx:x < 4294967296) (hb:b < 256) (h:byte x b=0):x=b:=by
  have:=qou hx hb (by omega)
  rw [h] at this
  exact qni this
theorem qw6 (n:Nat) {a b:Nat} (ha:a < 2 ^ n) (hb:b < 2 ^ n):a ^^^ b < 2 ^ n:=Nat.xor_lt_two_pow ha hb

/-- one step back: a register below 2^n behind a byte was below 2^(n+8) ahead of it,and turned by the byte it is 256 times as much. -/
theorem back (n : Nat) (hn : n ≤ 24) {x b:Nat} (hx:x < 4294967296) (hb:b < 256) (h:byte x b < 2 ^ n):x ^^^ b=256 * byte x b∧x < 2 ^ (n+8):=by
  have hle:2 ^ n≤2 ^ 24:=Nat.pow_le_pow_right (by omega) hn
  have e := qou hx hb (by have:(2:Nat) ^ 24=16777216:=by decide
                          omega)
  refine ⟨e,?_⟩
  have h1:x=(256 * byte x b) ^^^ b:=by rw [← e,qk5]
  rw [h1]
  apply qw6
  · rw [Nat.pow_add,Nat.mul_comm];simp;exact h
  · exact Nat.lt_of_lt_of_le hb (by rw [show (256:Nat)=2 ^ 8 by rfl];exact Nat.pow_le_pow_right (by omega) (by omega))

/-- up to four bytes from nothing come to nothing just if all are 0. -/
theorem q9l (l:List Nat) (hlen:l.length≤4) (hl:∀ b ∈ l,b < 256) (h:bytes 0 l=0):∀ b ∈ l,b=0:=by
  have step:∀ x b,x=0→x ^^^ b=256 * byte x b→b < 256→b=0∧byte x b=0:=by
    intro x b hx e hb
    subst hx
    rw [Nat.zero_xor] at e
    omega
  match l,hlen with
  | [],_=>intro b hb;cases hb
  | [a],_ =>
    have h0:=byte_zero 0 a (by omega) (hl a (by simp)) h
    intro b hb;simp at hb;omega
  | [a,b],_ =>
    have ha:=hl a (by simp)
    have hb:=hl b (by simp)
    have l1:=Uk (x:=0) (b:=a) (by omega) (by omega)
    have q2:=byte_zero (byte 0 a) b l1 hb h
    have q1:=back 8 (by omega) (x:=0) (b:=a) (by omega) ha (by rw [q2];exact hb)
    have s1:=step 0 a rfl q1.1 ha
    intro c hc;simp at hc;omega
  | [a,b,c],_ =>
    have ha:=hl a (by simp)
    have hb:=hl b (by simp)
    have hc:=hl c (by simp)
    have l1:=Uk (x:=0) (b:=a) (by omega) (by omega)
    have l2:=Uk (b:=b) l1 (by omega)
    have q3:=byte_zero (byte (byte 0 a) b) c l2 hc h
    have q2:=back 8 (by omega) l1 hb (by rw [q3];exact hc)
    have q1:=back 16 (by omega) (x:=0) (b:=a) (by omega) ha q2.2
    have s1:=step 0 a rfl q1.1 ha
    have s2:=step _ b s1.2 q2.1 hb
    intro d hd;simp at hd;omega
  | [a,b,c,d],_ =>
    have ha:=hl a (by simp)
    have hb:=hl b (by simp)
    have hc:=hl c (by simp)
    have hd:=hl d (by simp)
    have l1:=Uk (x:=0) (b:=a) (by omega) (by omega)
    have l2:=Uk (b:=b) l1 (by omega)
    have l3:=Uk (b:=c) l2 (by omega)
    have q4:=byte_zero _ d l3 hd h
    have q3:=back 8 (by omega) l2 hc (by rw [q4];exact hd)
    have q2:=back 16 (by omega) l1 hb q3.2
    have q1:=back 24 (by omega) (x:=0) (b:=a) (by omega) ha q2.2
    have s1:=step 0 a rfl q1.1 ha
    have s2:=step _ b s1.2 q2.1 hb
    have s3:=step _ c s2.2 q3.1 hc
    intro x hx;simp at hx;omega
  | a :: b :: c :: d :: e :: r,hlen=>simp at hlen

theorem qh8 (l:List Nat) (h:∀ b ∈ l,b=0):bytes 0 l=0:=by
  induction l with
  | nil=>rfl
  | cons b l ih =>
    have:=h b (by simp)
    subst this
    show bytes (byte 0 0) l=0
    rw [show byte 0 0=0 from qrm 8]
    exact ih (fun c hc=>h c (by simp [hc]))

/-- bytes turned within four that follow one another have another sum,if one of these turns. -/
theorem qw7 (l p d r:List Nat) (hd:d.length≤4) (hp:∀ b ∈ p,b=0) (hdb:∀ b ∈ d,b < 256) (hr:∀ b ∈ r,b=0) (hlen:l.length=p.length+d.length+r.length) :
    more 0 (turn l (p++d++r))=more 0 l ↔ ∀ b ∈ d,b=0:=by
  have e:bytes (0 ^^^ 4294967295) (turn l (p++d++r))=bytes (0 ^^^ 4294967295) l ^^^ bytes 0 (p++d++r):=by
    have:=qqx l (p++d++r) (by simp;omega) (0 ^^^ 4294967295) 0
    simpa using this
  have e2:bytes 0 (p++d++r)=bytes (bytes 0 d) r:=by rw [bytes_append,bytes_append,qh8 p hp]
  constructor
  · intro h
    have h1:=qrn h
    rw [e] at h1
    have h2:bytes 0 (p++d++r)=0:=by
      have:=congrArg (fun t=>bytes (0 ^^^ 4294967295) l ^^^ t) h1
      simp only [← Nat.xor_assoc,Nat.xor_self,Nat.zero_xor] at this
      exact this
    rw [e2] at h2
    have h3:bytes 0 d=0:=bytes_inj r (fun b hb=>by rw [hr b hb];omega) (qsi d (by omega) (fun b hb=>by have:=hdb b hb;omega)) (by omega) (by rw [h2,qh8 r hr])
    exact q9l d hd hdb h3
  · intro h
    unfold more
    rw [e,e2,qh8 d h,qh8 r hr,Nat.xor_zero]

end Go.Proofs.YtbbjlfbemibfcaaGreat.crc
end
section
namespace Go.Proofs.YtbbjlfbemibfcaaGreat.frame
set_option maxRecDepth 20000
open Go.Proofs.YtbbjlfbemibfcaaGreat.crc

/-- n in k bytes,the highest first (its lowest k). -/
def be:Nat→Nat→List Nat
  | 0,_=>[]
  | k+1,n=>n / 256 ^ k % 256 :: be k n
/-- what bytes have,the highest first. -/
def num (l:List Nat):Nat:=l.foldl (fun a c=>a * 256+c) 0
/-- n bytes from a place on. -/
def seg (l:List Nat) (a n:Nat):List Nat:=(l.drop a).take n

theorem zi (k n:Nat):(be k n).length=k:=by
  induction k with
  | zero=>rfl
  | succ k ih=>simp [be,ih]
theorem Me (k n:Nat):∀ b ∈ be k n,b < 256:=by
  induction k with
  | zero=>simp [be]
  | succ k ih =>
    intro b hb
    simp only [be,List.mem_cons] at hb
    rcases hb with rfl | hb
    · exact Nat.mod_lt _ (by omega)
    · exact ih b hb
theorem q1u (l:List Nat) (x:Nat):l.foldl (fun a c=>a * 256+c) x=x * 256 ^ l.length+num l:=by
  unfold num
  induction l generalizing x with
  | nil=>simp
  | cons b l ih =>
    simp only [List.foldl_cons,List.length_cons]
    rw [ih,ih (0 * 256+b),Nat.pow_succ,Nat.add_mul,Nat.mul_assoc,Nat.mul_comm 256]
    simp
    omega
theorem qnx (b:Nat) (l:List Nat):num (b :: l)=b * 256 ^ l.length+num l:=by
  have:=q1u l b
  unfold num at this ⊢
  simpa using this
theorem ql1 (l:List Nat) (h:∀ b ∈ l,b < 256):num l < 256 ^ l.length:=by
  induction l with
  | nil=>simp [num]
  | cons b l ih =>
    rw [qnx,List.length_cons,Nat.pow_succ]
    have h1:=ih (fun c hc=>h c (by simp [hc]))
    have h2:(b+1) * 256 ^ l.length≤256 * 256 ^ l.length:=Nat.mul_le_mul_right _ (by have:=h b (by simp);omega)
    rw [Nat.add_mul] at h2
    rw [Nat.mul_comm (256 ^ l.length)]
    omega
theorem Nu (k n:Nat):num (be k n)=n % 256 ^ k:=by
  induction k with
  | zero=>simp [be,num,Nat.mod_one]
  | succ k ih =>
    rw [be,qnx,zi,ih,Nat.pow_succ,Nat.mod_mul]
    rw [Nat.mul_comm,Nat.add_comm]
theorem q7r (k n m:Nat):be k (m * 256 ^ k+n)=be k n:=by
  induction k generalizing m with
  | zero=>rfl
  | succ k ih =>
    simp only [be]
    rw [Nat.pow_succ]
    have e:m * (256 ^ k * 256)+n=(m * 256) * 256 ^ k+n:=by rw [Nat.mul_assoc,Nat.mul_comm 256]
    rw [e,ih (m * 256)]
    congr 1
    have hp:0 < 256 ^ k:=Nat.pow_pos (by omega)
    rw [Nat.add_comm,Nat.add_mul_div_right _ _ hp,Nat.add_mul_mod_self_right]
theorem q7s (l:List Nat) (h:∀ b ∈ l,b < 256):be l.length (num l)=l:=by
  induction l with
  | nil=>rfl
  | cons b l ih =>
    have hl:=ql1 l (fun c hc=>h c (by simp [hc]))
    have hp:0 < 256 ^ l.length:=Nat.pow_pos (by omega)
    rw [List.length_cons,be,qnx,q7r,ih (fun c hc=>h c (by simp [hc]))]
    congr 1
    rw [Nat.add_comm,Nat.add_mul_div_right _ _ hp,Nat.div_eq_of_lt hl,Nat.zero_add]
    exact Nat.mod_eq_of_lt (h b (by simp))
theorem seg_lt {l:List Nat} (h:∀ b ∈ l,b < 256) (a n:Nat):∀ b ∈ seg l a n,b < 256:=fun b hb=>h b (List.mem_of_mem_drop (List.mem_of_mem_take hb))
/-- a number as 64 bits,and what 64 bits are as a number. -/
def u (x:Int):Nat:=(x % 18446744073709551616).toNat
def sg (n:Nat):Int:=if n < 9223372036854775808 then (n:Int) else (n:Int) - 18446744073709551616
theorem q9m {n:Nat} (h:n < 18446744073709551616) : -9223372036854775808≤sg n∧sg n≤9223372036854775807:=by unfold sg;split<;>omega

/-- a frame's numbers. -/
structure Fr where
  (e l k b0 b1 b2 b3 b4 b5:Int)
  deriving DecidableEq
def zero:Fr:=⟨0,0,0,0,0,0,0,0,0⟩
def jh (x:Int):Prop := -9223372036854775808≤x∧x≤9223372036854775807
def Fr.fine (f:Fr):Prop:=jh f.e∧jh f.l∧jh f.k∧jh f.b0∧jh f.b1∧jh f.b2∧jh f.b3∧jh f.b4∧jh f.b5
def right (f:Fr):Bool:=decide (1≤f.e∧f.e≤1000000∧1≤f.l∧f.l≤1000000000∧1≤f.k∧f.k≤6)
/-- what is ahead of the sum. -/
def data (f:Fr):List Nat:=be 4 72++(be 4 (u f.e)++(be 8 (u f.l)++(be 4 (u f.k)++(be 8 (u f.b0)++(be 8 (u f.b1)++(be 8 (u f.b2)++(be 8 (u f.b3)++(be 8 (u f.b4)++be 8 (u f.b5)))))))))
/-- four bytes,the lowest first. -/
def le4 (s:Nat):List Nat:=[s % 256,s / 256 % 256,s / 65536 % 256,s / 16777216 % 256]
def enc (f:Fr):List Nat:=data f++le4 (more 0 (data f))
/-- the numbers that stand in bytes. -/
def parse (l:List Nat):Fr :=
  ⟨(num (seg l 4 4):Nat),sg (num (seg l 8 8)),(num (seg l 16 4):Nat),sg (num (seg l 20 8)),sg (num (seg l 28 8)),sg (num (seg l 36 8)),sg (num (seg l 44 8)),sg (num (seg l 52 8)),sg (num (seg l 60 8))⟩
/-- which frame bytes are: 0 and the frame,or an error's number and none. -/
def dec (l:List Nat):Int × Fr :=
  if l.length≠72∨num (seg l 0 4)≠72 then (2,zero)
  else if seg l 68 4≠le4 (more 0 (l.take 68)) then (10,zero)
  else if right (parse l)=true then (0,parse l) else (2,zero)

theorem qw8 {l:List Nat} (h:∀ b ∈ l,b < 256):(parse l).fine:=by
  have k8 : ∀ a, jh (sg (num (seg l a 8))):=fun a=>by
    have h1:=ql1 (seg l a 8) (seg_lt h a 8)
    have h2:(256:Nat) ^ (seg l a 8).length≤256 ^ 8:=Nat.pow_le_pow_right (by omega) (by simp [seg];omega)
    exact q9m (by have:(256:Nat) ^ 8=18446744073709551616:=by decide
                  omega)
  have k4:∀ a,jh ((num (seg l a 4):Nat):Int):=fun a=>by
    have h1:=ql1 (seg l a 4) (seg_lt h a 4)
    have h2:(256:Nat) ^ (seg l a 4).length≤256 ^ 4:=Nat.pow_le_pow_right (by omega) (by simp [seg];omega)
    have:(256:Nat) ^ 4=4294967296:=by decide
    unfold jh;omega
  exact ⟨k4 4,k8 8,k4 16,k8 20,k8 28,k8 36,k8 44,k8 52,k8 60⟩
theorem ql2:zero.fine:=by simp [zero,Fr.fine,jh]
theorem Hy {l:List Nat} (h:∀ b ∈ l,b < 256):(dec l).2.fine:=by
  unfold dec
  split
  · exact ql2
  · split
    · exact ql2
    · split
      · exact qw8 h
      · exact ql2
end Go.Proofs.YtbbjlfbemibfcaaGreat.frame
end
section
namespace Go.Proofs.YtbbjlfbemibfcaaGreat.rec
set_option maxRecDepth 20000
open Go.Proofs.YtbbjlfbemibfcaaGreat.frame (jh)
structure Rc where
 (k o a y d q p l s n:Int) (on:Bool) (z t:Int)
 deriving DecidableEq
structure Ns where
 (b0 b1 b2 b3 b4 b5:Int)
 deriving DecidableEq
def Rc.fine (r:Rc):Prop:=jh r.k∧jh r.o∧jh r.a∧jh r.y∧jh r.d∧jh r.q∧jh r.p∧jh r.l∧jh r.s∧jh r.n∧jh r.z∧jh r.t
def Ns.fine (b:Ns):Prop:=jh b.b0∧jh b.b1∧jh b.b2∧jh b.b3∧jh b.b4∧jh b.b5
def nz:Ns:=⟨0,0,0,0,0,0⟩
def nums (r:Rc):Ns :=
 if r.k=1 then ⟨r.o,r.a,r.y,r.d,r.q,r.p⟩
 else if r.k=2 then ⟨r.o,r.q,r.p,0,0,0⟩
 else if r.k=3 then ⟨r.o,0,0,0,0,0⟩
 else if r.k=4 then ⟨r.a,r.y,r.l,r.s,r.n,0⟩
 else if r.k=5 then (if r.on=true then ⟨1,0,0,0,0,0⟩ else nz)
 else if r.k=6 then ⟨r.z,r.t,r.o,r.q,r.p,0⟩
 else nz
def rd (k:Int) (b:Ns):Rc :=
 if k=1 then ⟨k,b.b0,b.b1,b.b2,b.b3,b.b4,b.b5,0,0,0,false,0,0⟩
 else if k=2 then ⟨k,b.b0,0,0,0,b.b1,b.b2,0,0,0,false,0,0⟩
 else if k=3 then ⟨k,b.b0,0,0,0,0,0,0,0,0,false,0,0⟩
 else if k=4 then ⟨k,0,b.b0,b.b1,0,0,0,b.b2,b.b3,b.b4,false,0,0⟩
 else if k=5 then ⟨k,0,0,0,0,0,0,0,0,0,decide (b.b0=1),0,0⟩
 else if k=6 then ⟨k,b.b2,0,0,0,b.b3,b.b4,0,0,0,false,b.b0,b.b1⟩
 else ⟨k,0,0,0,0,0,0,0,0,0,false,0,0⟩
def Ap (o:Int):Bool:=decide (1≤o∧o≤1000000000000)
def Ec (a:Int):Bool:=decide (0≤a∧a < 8)
def qc4 (q p:Int):Bool:=decide (1≤q∧1≤p)
def Na (y l s n:Int):Bool:=if y = -1 then decide (l=0∧s=0∧0≤n) else Ec y && decide (0≤l∧0≤s∧0≤n)
def Kq (t q p:Int):Bool :=
 if t=3 then decide (1≤q∧p=0)
 else if t=5 then qc4 q p
 else if t=1∨t=2∨t=4∨t=6 then decide (q=0∧p=0)
 else false
def may (r:Rc):Bool :=
 if r.k=1 then Ap r.o && Ec r.a && Ec r.y && decide (r.d=1∨r.d=2) && qc4 r.q r.p
 else if r.k=2 then Ap r.o && qc4 r.q r.p
 else if r.k=3 then Ap r.o
 else if r.k=4 then Ec r.a && Na r.y r.l r.s r.n
 else if r.k=5 then true
 else if r.k=6 then decide (1≤r.z∧r.z≤1000000000) && Ap r.o && Kq r.t r.q r.p
 else false
def right (r:Rc):Bool:=may r && decide (rd r.k (nums r)=r)
theorem qw9 {r:Rc} (h:right r=true):1≤r.k∧r.k≤6:=by
 unfold right may at h
 rw [Bool.and_eq_true] at h
 have h:=h.1
 repeat' split at h
 all_goals first | omega | cases h
theorem En:jh 0:=by simp [jh]
theorem in1:jh 1:=by simp [jh]
theorem qyk {r:Rc} (h:r.fine):(nums r).fine:=by
 obtain ⟨h1,h2,h3,h4,h5,h6,h7,h8,h9,h10,h11,h12⟩:=h
 unfold nums
 repeat' split
 all_goals simp only [Ns.fine,nz,En,in1, *,and_self]
theorem G8 {k:Int} {b:Ns} (hk:jh k) (h:b.fine):(rd k b).fine:=by
 obtain ⟨h1,h2,h3,h4,h5,h6⟩:=h
 unfold rd
 repeat' split
 all_goals refine ⟨hk,?_,?_,?_,?_,?_,?_,?_,?_,?_,?_,?_⟩<;>first | assumption | exact En
def fr (r:Rc) (e l:Int):frame.Fr:=⟨e,l,r.k,(nums r).b0,(nums r).b1,(nums r).b2,(nums r).b3,(nums r).b4,(nums r).b5⟩
def want (r:Rc):Rc :=
 if r.k=1 then ⟨r.k,r.o,r.a,r.y,r.d,r.q,r.p,0,0,0,false,0,0⟩
 else if r.k=2 then ⟨r.k,r.o,0,0,0,r.q,r.p,0,0,0,false,0,0⟩
 else if r.k=3 then ⟨r.k,r.o,0,0,0,0,0,0,0,0,false,0,0⟩
 else if r.k=4 then ⟨r.k,0,r.a,r.y,0,0,0,r.l,r.s,r.n,false,0,0⟩
 else if r.k=5 then ⟨r.k,0,0,0,0,0,0,0,0,0,r.on,0,0⟩
 else if r.k=6 then ⟨r.k,r.o,0,0,0,if r.t=3∨r.t=5 then r.q else 0,if r.t=5 then r.p else 0,0,0,0,false,r.z,r.t⟩
 else ⟨r.k,0,0,0,0,0,0,0,0,0,false,0,0⟩
def okR (r:Rc):Bool :=
 if r.k=1 then decide (0 < r.o∧r.o≤1000000000000∧0≤r.a∧r.a < 8∧0≤r.y∧r.y < 8∧1≤r.d∧r.d≤2∧0 < r.q∧0 < r.p)
 else if r.k=2 then decide (0 < r.o∧r.o≤1000000000000∧0 < r.q∧0 < r.p)
 else if r.k=3 then decide (0 < r.o∧r.o≤1000000000000)
 else if r.k=4 then decide (0≤r.a∧r.a < 8 ∧ -1≤r.y∧r.y < 8∧0≤r.l∧0≤r.s∧0≤r.n∧¬ (r.y = -1∧(r.l≠0∨r.s≠0)))
 else if r.k=5 then true
 else if r.k=6 then decide (0 < r.z∧r.z≤1000000000∧1≤r.t∧r.t≤6∧0 < r.o∧r.o≤1000000000000∧(r.t=3∨r.t=5→0 < r.q)∧(r.t=5→0 < r.p))
 else false
theorem right_eq (r:Rc):(okR r && decide (r=want r))=right r:=by
 obtain ⟨k,o,a,y,d,q,p,l,s,n,on,z,t⟩:=r
 unfold right
 rw [Bool.eq_iff_iff]
 simp only [Bool.and_eq_true,decide_eq_true_eq]
 by_cases h1:k=1
 ·subst h1;cases on<;>simp [okR,want,may,rd,nums,Ap,Ec,qc4]<;>omega
 by_cases h2:k=2
 ·subst h2;cases on<;>simp [okR,want,may,rd,nums,Ap,Ec,qc4]<;>omega
 by_cases h3:k=3
 ·subst h3;cases on<;>simp [okR,want,may,rd,nums,Ap,Ec,qc4]<;>omega
 by_cases h4:k=4
 ·subst h4
  by_cases hy:y = -1
  ·subst hy;cases on<;>simp [okR,want,may,rd,nums,Ap,Ec,qc4,Na]<;>omega
  ·cases on<;>simp [okR,want,may,rd,nums,Ap,Ec,qc4,Na,hy]<;>omega
 by_cases h5:k=5
 ·subst h5
  cases on<;>simp [okR,want,may,rd,nums,nz]<;>omega
 by_cases h6:k=6
 ·subst h6
  by_cases t3:t=3
  ·subst t3;cases on<;>simp [okR,want,may,rd,nums,Ap,Kq]<;>omega
  by_cases t5:t=5
  ·subst t5;cases on<;>simp [okR,want,may,rd,nums,Ap,Kq,qc4]<;>omega
  ·cases on<;>simp [okR,want,may,rd,nums,Ap,Kq,t3,t5]<;>omega
 ·simp [okR,may,h1,h2,h3,h4,h5,h6]
end Go.Proofs.YtbbjlfbemibfcaaGreat.rec
end
section
namespace Go.Proofs.YtbbjlfbemibfcaaGreat.order
set_option maxRecDepth 20000
open Go.Proofs.YtbbjlfbemibfcaaGreat.frame (jh)
open Go.Proofs.YtbbjlfbemibfcaaGreat.rec (Rc Kq Ap Ec qc4)
structure Or where
 (i a y d q p f h m r v:Int) (g:Bool)
 deriving DecidableEq
structure Nt where
 (z t o q p:Int)
 deriving DecidableEq
def Or.fine (o:Or):Prop:=jh o.i∧jh o.a∧jh o.y∧jh o.d∧jh o.q∧jh o.p∧jh o.f∧jh o.h∧jh o.m∧jh o.r∧jh o.v
def oz:Or:=⟨0,0,0,0,0,0,0,0,0,0,0,false⟩
def Nt.rc (n:Nt):Rc:=⟨6,n.o,0,0,0,n.q,n.p,0,0,0,false,n.z,n.t⟩
def Lh (n:Nt):Bool:=rec.right n.rc
def aj (o:Or):Prop :=
 (1≤o.i∧o.i≤1000000000000∧0≤o.a∧o.a < 8∧0≤o.y∧o.y < 8∧1≤o.d∧o.d≤2∧1≤o.q∧1≤o.p)∧0≤o.f∧o.f≤o.q∧0≤o.v∧((o.m=0∧o.r=0)∨(1≤o.m∧1≤o.r)) ∧
 ((o.h=1∧o.m=0∧o.r=0∧o.f=0∧o.v=0)∨(o.h=2∧o.f≠o.q)∨(o.h=3∧o.m=0∧o.r=0))
instance (o:Or):Decidable (aj o):=by unfold aj;infer_instance
def right (o:Or):Bool:=decide (aj o)
def jl (r:Rc):Or × Int:=if r.k=1∧rec.right r=true then (⟨r.o,r.a,r.y,r.d,r.q,r.p,0,1,0,0,0,false⟩,0) else (oz,1)
def done (o:Or):Or:={ o with h:=3,m:=0,r:=0 }
def take (o:Or) (n:Nt):Or × Int :=
 if right o=false∨Lh n=false∨n.o≠o.i then (o,1)
 else if o.h=1∧n.t=1 then ({ o with h:=2 },0)
 else if (o.h=1∧n.t=2)∨(o.h=2∧n.t=4) then (done o,0)
 else if o.h=2∧n.t=3∧n.q≤o.q - o.f then (if n.q < o.q - o.f then { o with f:=o.f+n.q } else done { o with f:=o.f+n.q },0)
 else if o.h=2∧0 < o.m∧n.t=6 then ({ o with m:=0,r:=0 },0)
 else if o.h=2∧0 < o.m∧n.t=5∧n.q=o.m∧n.p=o.r∧o.f < n.q then ({ o with q:=n.q,p:=n.p,m:=0,r:=0 },0)
 else (o,8)
def change (o:Or) (x z:Int):Or × Int :=
 if right o=false∨x < 1∨z < 1∨o.v=9223372036854775807 then (o,1)
 else if o.h≠2∨o.m≠0∨o.g=true then (o,8)
 else ({ o with m:=x,r:=z,v:=o.v+1 },0)
def stop (o:Or):Or × Int :=
 if right o=false then (o,1) else if o.g=true∨o.h=3 then (o,8) else ({ o with g:=true },0)
def open_ (o:Or):Int:=if right o=false∨o.h=3 then 0 else if o.q < o.m then o.m - o.f else o.q - o.f
def fits (x:Int):Bool:=decide (-9223372036854775808≤x∧x≤9223372036854775807)
def worth (o:Or):Int × Int :=
 if right o=false then (0,1) else if o.h=3 then (0,0)
 else if fits ((o.q - o.f) * o.p)=false then (0,3)
 else if o.f < o.m then (if fits ((o.m - o.f) * o.r)=false then (0,3) else if (o.q - o.f) * o.p < (o.m - o.f) * o.r then ((o.m - o.f) * o.r,0) else ((o.q - o.f) * o.p,0))
 else ((o.q - o.f) * o.p,0)
theorem dh {o:Or} : right o=true ↔ aj o:=by simp [right]
theorem jo {o:Or} : right o=false ↔ ¬ aj o:=by simp [right]
theorem Xb {n:Nt} : Lh n=true ↔ (1≤n.z∧n.z≤1000000000)∧(1≤n.o∧n.o≤1000000000000)∧Kq n.t n.q n.p=true:=by
 unfold Lh rec.right rec.may Nt.rc
 simp [rec.rd,rec.nums,Ap,and_assoc]
theorem qih {q p:Int} (h:Kq 3 q p=true):1≤q∧p=0:=by simpa [Kq] using h
theorem vg {a b p:Int} (hp:0≤p) (h:a≤b):a * p≤b * p:=Int.mul_le_mul_of_nonneg_right h hp
theorem Z8 {a p:Int} (ha:0≤a) (hp:0≤p):0≤a * p:=Int.mul_nonneg ha hp
theorem qqz {x y:Int} (h0:0≤x) (h:x≤y) (hy:fits y=true):fits x=true:=by
 unfold fits at *;simp at *;omega
inductive yt (o:Or) (n:Nt):Or→Prop
 |ack:o.h=1→n.t=1→yt o n { o with h:=2 }
 |ends:(o.h=1∧n.t=2)∨(o.h=2∧n.t=4)→yt o n (done o)
 |fill:o.h=2→n.t=3→1≤n.q→n.q < o.q - o.f→yt o n { o with f:=o.f+n.q }
 |full:o.h=2→n.t=3→n.q=o.q - o.f→yt o n (done { o with f:=o.f+n.q })
 |off:o.h=2→0 < o.m→n.t=6→yt o n { o with m:=0,r:=0 }
 |new:o.h=2→0 < o.m→n.t=5→n.q=o.m→n.p=o.r→o.f < o.m→yt o n { o with q:=o.m,p:=o.r,m:=0,r:=0 }
theorem q1v {o:Or} {n:Nt} {p:Or} {e:Int} (h:take o n=(p,e)):e=0∨(p=o∧(e=1∨e=8)):=by
 unfold take at h
 repeat' split at h
 all_goals simp only [Prod.mk.injEq] at h;obtain ⟨rfl,rfl⟩:=h;simp
theorem qpr {o:Or} {n:Nt} {p:Or} (h:take o n=(p,0)):aj o∧Lh n=true∧n.o=o.i∧yt o n p:=by
 unfold take at h
 split at h
 ·simp at h
 rename_i h0
 have h1:right o=true∧Lh n=true∧n.o=o.i:=by
  cases hr:right o<;>cases hn:Lh n<;>simp [hr,hn] at h0 ⊢
  exact h0
 refine ⟨dh.1 h1.1,h1.2.1,h1.2.2,?_⟩
 have hn:=Xb.1 h1.2.1
 split at h
 ·rename_i hc;simp only [Prod.mk.injEq,and_true] at h;subst h;exact .ack hc.1 hc.2
 split at h
 ·rename_i hc;simp only [Prod.mk.injEq,and_true] at h;subst h;exact .ends hc
 split at h
 ·rename_i hc
  have h3:=hn.2.2
  rw [hc.2.1] at h3
  have h4:=qih h3
  simp only [Prod.mk.injEq,and_true] at h
  split at h
  ·rename_i hd;subst h;exact .fill hc.1 hc.2.1 h4.1 hd
  ·rename_i hd;subst h;exact .full hc.1 hc.2.1 (by omega)
 split at h
 ·rename_i hc;simp only [Prod.mk.injEq,and_true] at h;subst h;exact .off hc.1 hc.2.1 hc.2.2
 split at h
 ·rename_i hc
  obtain ⟨c1,c2,c3,c4,c5,c6⟩:=hc
  simp only [Prod.mk.injEq,and_true] at h
  subst h
  rw [c4,c5]
  exact .new c1 c2 c3 c4 c5 (by omega)
 ·simp at h
theorem Yj {o:Or} {n:Nt} {p:Or} (hr:aj o) (h:yt o n p):aj p:=by
 obtain ⟨i,a,y,d,q,pr,f,ph,m,r,v,g⟩:=o
 unfold aj at hr ⊢
 cases h<;>simp only [done,true_and,and_true,true_or,or_true] at *<;>omega
theorem qj0 {o:Or} {n:Nt} {p:Or} (hr:aj o) (h:yt o n p):o.h≠3∧o.h≤p.h∧p.i=o.i∧p.a=o.a∧p.y=o.y∧p.d=o.d∧o.f≤p.f∧p.v=o.v∧p.g=o.g:=by
 obtain ⟨i,a,y,d,q,pr,f,ph,m,r,v,g⟩:=o
 unfold aj at hr
 cases h<;>simp only [done,true_and,and_true,true_or,or_true] at *<;>omega
theorem qyl {o:Or} {n:Nt} {p:Or} (hr:aj o) (h:yt o n p):open_ p≤open_ o:=by
 have hp:=Yj hr h
 unfold open_
 rw [dh.2 hr,dh.2 hp]
 obtain ⟨i,a,y,d,q,pr,f,ph,m,r,v,g⟩:=o
 unfold aj at hr hp
 cases h<;>simp only [done,true_and,and_true,true_or,or_true] at *<;>simp<;>(repeat' split)<;>omega
theorem qi1 {o:Or} (hr:aj o) (hh:o.h=3):worth o=(0,0):=by
 unfold worth;rw [dh.2 hr,if_neg (by simp),if_pos hh]
theorem qjh {o:Or} {a:Int} (hr:aj o) (hh:o.h≠3):worth o=(a,0) ↔ fits ((o.q - o.f) * o.p)=true∧(o.f < o.m→fits ((o.m - o.f) * o.r)=true)∧a=if o.f < o.m∧(o.q - o.f) * o.p < (o.m - o.f) * o.r then (o.m - o.f) * o.r else (o.q - o.f) * o.p:=by
 unfold worth
 rw [dh.2 hr,if_neg (by simp),if_neg hh]
 generalize (o.q - o.f) * o.p=A
 generalize (o.m - o.f) * o.r=B
 cases hA:fits A
 ·simp
 ·by_cases hm:o.f < o.m
  ·cases hB:fits B
   ·simp [hm]
   ·by_cases hl:A < B<;>simp [hm,hl]<;>omega
  ·simp [hm];omega
theorem qk6 {o:Or} {n:Nt} {p:Or} {a:Int} (hr:aj o) (h:yt o n p) (hw:worth o=(a,0)):∃ b,worth p=(b,0)∧b≤a:=by
 have hp:=Yj hr h
 have hs:=qj0 hr h
 obtain ⟨hA,hB,ha⟩:=(qjh hr hs.1).1 hw
 obtain ⟨i,a',y,d,q,pr,f,ph,m,r,v,g⟩:=o
 simp only at hA hB ha hs
 have hr':=hr
 unfold aj at hr'
 simp only at hr'
 have hA0:0≤(q - f) * pr:=Z8 (by omega) (by omega)
 have hr0:0≤r:=by omega
 have hp0:0≤pr:=by omega
 have hBm:f < m→0≤(m - f) * r:=fun hh=>Z8 (by omega) hr0
 have ha0:0≤a:=by rw [ha];split;exact hBm (by omega);exact hA0
 have haA:(q - f) * pr≤a:=by rw [ha];split<;>omega
 have haB:f < m→(m - f) * r≤a:=fun hh=>by rw [ha];split<;>omega
 cases h with
 |ack h1 h2 =>
  refine ⟨a,(qjh hp (by simp)).2 ⟨hA,hB,ha⟩,Int.le_refl _⟩
 |ends h1=>exact ⟨0,qi1 hp rfl,ha0⟩
 |full h1 h2 h3=>exact ⟨0,qi1 hp rfl,ha0⟩
 |fill h1 h2 h3 h4 =>
  simp only at h1 h4
  have e1:(q - (f+n.q)) * pr≤(q - f) * pr:=vg hp0 (by omega)
  have e2:0≤(q - (f+n.q)) * pr:=Z8 (by omega) hp0
  have e3:(m - (f+n.q)) * r≤(m - f) * r:=vg hr0 (by omega)
  have e4:f+n.q < m→0≤(m - (f+n.q)) * r:=fun hh=>Z8 (by omega) hr0
  refine ⟨_,(qjh hp (by simp;omega)).2 ⟨qqz e2 e1 hA,fun hh=>qqz (e4 hh) e3 (hB (by simp only at hh;omega)),rfl⟩,?_⟩
  simp only
  split
  ·have:=haB (by omega);omega
  ·omega
 |off h1 h2 h3 =>
  simp only at h1
  refine ⟨_,(qjh hp (by simp;omega)).2 ⟨hA,fun hh=>by simp only at hh;omega,rfl⟩,?_⟩
  simp only
  rw [if_neg (by omega)]
  exact haA
 |new h1 h2 h3 h4 h5 h6 =>
  simp only at h1 h6
  refine ⟨_,(qjh hp (by simp;omega)).2 ⟨hB h6,fun hh=>by simp only at hh;omega,rfl⟩,?_⟩
  simp only
  rw [if_neg (by omega)]
  exact haB h6
theorem q9n {o:Or} (hr:aj o):1≤o.i∧o.i≤1000000000000:=⟨hr.1.1,hr.1.2.1⟩
theorem qxa {o:Or} {x z:Int} {p:Or} {e:Int} (h:change o x z=(p,e)):e=0∨p=o∧(e=1∨e=8):=by
 unfold change at h
 repeat' split at h
 all_goals simp only [Prod.mk.injEq] at h;obtain ⟨rfl,rfl⟩:=h;simp
theorem qj1 {o:Or} {x z:Int} {p:Or} (h:change o x z=(p,0)):aj o∧1≤x∧1≤z∧o.v≠9223372036854775807∧o.h=2∧o.m=0∧o.r=0∧o.g=false∧p = { o with m:=x,r:=z,v:=o.v+1 }:=by
 unfold change at h
 split at h
 ·simp at h
 rename_i h1
 split at h
 ·simp at h
 rename_i h2
 simp only [Prod.mk.injEq,and_true] at h
 have hr:right o=true:=by cases hr:right o<;>simp [hr] at h1 ⊢
 have hg:o.g=false:=by cases hg:o.g<;>simp [hg] at h2 ⊢
 have hR:=dh.1 hr
 simp only [not_or,Int.not_lt] at h1 h2
 have hR':=hR
 unfold aj at hR'
 exact ⟨hR,h1.2.1,h1.2.2.1,h1.2.2.2,by omega,by omega,by omega,hg,h.symm⟩
theorem ql3 {o:Or} {x z:Int} {p:Or} (h:change o x z=(p,0)):aj p:=by
 obtain ⟨hr,hx,hz,hv,hh,hm,hr0,hg,rfl⟩:=qj1 h
 unfold aj at hr ⊢
 simp only
 omega
theorem qnj {r:Rc} {o:Or} (h:jl r=(o,0)):r.k=1∧rec.right r=true∧aj o∧o=⟨r.o,r.a,r.y,r.d,r.q,r.p,0,1,0,0,0,false⟩:=by
 unfold jl at h
 split at h
 ·rename_i hc
  simp only [Prod.mk.injEq,and_true] at h
  refine ⟨hc.1,hc.2,?_,h.symm⟩
  subst h
  have hm:=hc.2
  unfold rec.right rec.may at hm
  rw [Bool.and_eq_true,if_pos hc.1] at hm
  have hm:=hm.1
  simp [Ap,Ec,qc4] at hm
  unfold aj
  simp only [true_and,and_true,true_or,or_true]
  omega
 ·simp at h
theorem Jf {r:Rc} (hr:r.fine):(jl r).1.fine:=by
 unfold jl
 obtain ⟨h1,h2,h3,h4,h5,h6,h7,h8,h9,h10,h11,h12⟩:=hr
 split
 ·exact ⟨h2,h3,h4,h5,h6,h7,rec.En,rec.in1,rec.En,rec.En,rec.En⟩
 ·simp [oz,Or.fine,rec.En]
theorem qym {o:Or} {n:Nt} {p:Or} (hr:aj o) (hf:o.fine) (h:yt o n p):p.fine:=by
 have h3:jh 3:=by simp [jh]
 have h2:jh 2:=by simp [jh]
 obtain ⟨i,a,y,d,q,pr,f,ph,m,r,v,g⟩:=o
 obtain ⟨f1,f2,f3,f4,f5,f6,f7,f8,f9,f10,f11⟩:=hf
 simp only at f1 f2 f3 f4 f5 f6 f7 f8 f9 f10 f11
 unfold aj at hr
 simp only at hr
 cases h with
 |ack=>exact ⟨f1,f2,f3,f4,f5,f6,f7,h2,f9,f10,f11⟩
 |ends=>exact ⟨f1,f2,f3,f4,f5,f6,f7,h3,rec.En,rec.En,f11⟩
 |fill e1 e2 e3 e4=>simp only at e4;exact ⟨f1,f2,f3,f4,f5,f6,by simp only [jh] at *;omega,f8,f9,f10,f11⟩
 |full e1 e2 e3=>simp only at e3;exact ⟨f1,f2,f3,f4,f5,f6,by simp only [jh,done] at *;omega,h3,rec.En,rec.En,f11⟩
 |off=>exact ⟨f1,f2,f3,f4,f5,f6,f7,f8,rec.En,rec.En,f11⟩
 |new=>exact ⟨f1,f2,f3,f4,f9,f10,f7,f8,rec.En,rec.En,f11⟩
theorem qyn {o:Or} {n:Nt} {p:Or} {e:Int} (hf:o.fine) (h:take o n=(p,e)):p.fine:=by
 rcases q1v h with rfl | ⟨rfl,_⟩
 ·obtain ⟨hr,_,_,ht⟩:=qpr h
  exact qym hr hf ht
 ·exact hf
theorem Ul {o:Or} {x z:Int} {p:Or} {e:Int} (hf:o.fine) (hx:jh x) (hz:jh z) (h:change o x z=(p,e)):p.fine:=by
 rcases qxa h with rfl | ⟨rfl,_⟩
 ·obtain ⟨hr,_,_,hv,_,_,_,_,rfl⟩:=qj1 h
  obtain ⟨f1,f2,f3,f4,f5,f6,f7,f8,f9,f10,f11⟩:=hf
  unfold aj at hr
  exact ⟨f1,f2,f3,f4,f5,f6,f7,f8,hx,hz,by simp only [jh] at *;omega⟩
 ·exact hf
theorem qyo {o:Or} {p:Or} {e:Int} (hf:o.fine) (h:stop o=(p,e)):p.fine:=by
 unfold stop at h
 repeat' split at h
 all_goals simp only [Prod.mk.injEq] at h;obtain ⟨rfl,rfl⟩:=h;exact hf
end Go.Proofs.YtbbjlfbemibfcaaGreat.order
end
section
namespace Go.Proofs.YtbbjlfbemibfcaaGreat.cell
set_option maxRecDepth 20000
open Go.Proofs.YtbbjlfbemibfcaaGreat.frame (jh)
open Go.Proofs.YtbbjlfbemibfcaaGreat.order (Or Nt open_ worth)
structure Ce where
 (p b s n:Int)
 deriving DecidableEq
structure Ex where
 (l s n:Int)
 deriving DecidableEq
def Ce.fine (c:Ce):Prop:=jh c.p∧jh c.b∧jh c.s∧jh c.n
def Ex.fine (x:Ex):Prop:=jh x.l∧jh x.s∧jh x.n
def aj (c:Ce):Prop := -9223372036854775808≤c.p+c.b∧c.p+c.b≤9223372036854775807 ∧ -9223372036854775808≤c.s - c.p∧c.s - c.p≤9223372036854775807∧0≤c.b∧0≤c.s∧0≤c.n
instance (c:Ce):Decidable (aj c):=by unfold aj;infer_instance
instance (c:Ce):Decidable c.fine:=by unfold Ce.fine jh;infer_instance
def right (c:Ce):Bool:=decide (aj c)
def Ba (c:Ce):Ex × Int:=if right c=true then (⟨c.p+c.b,c.s - c.p,c.n⟩,0) else (⟨0,0,0⟩,1)
def good (c d:Ce):Ce × Int:=if d.fine∧aj d then (d,0) else (c,3)
def turned (c:Ce) (d x w:Int):Ce:=if d=1 then ⟨c.p,c.b+x,c.s,c.n+w⟩ else ⟨c.p,c.b,c.s+x,c.n+w⟩
def come (c:Ce) (o:Or):Ce × Int :=
 if right c=false∨order.right o=false then (c,1) else if (worth o).2≠0 then (c,3) else good c (turned c o.d (open_ o) (worth o).1)
def go (c:Ce) (o:Or):Ce × Int :=
 if right c=false∨order.right o=false then (c,1) else if (worth o).2≠0 then (c,3) else good c (turned c o.d (-(open_ o)) (-(worth o).1))
def moved (c:Ce) (side qty:Int):Ce:=⟨if side=2 then c.p - qty else c.p+qty,c.b,c.s,c.n⟩
def did (c:Ce) (side qty:Int):Ce × Int :=
 if right c=false∨side < 1∨2 < side∨qty < 0 then (c,1) else good c (moved c side qty)
def covers (a b:Ex):Bool:=decide (b.l≤a.l∧b.s≤a.s∧b.n≤a.n)
theorem dh {c:Ce} : right c=true ↔ aj c:=by simp [right]
theorem jo {c:Ce} : right c=false ↔ ¬ aj c:=by simp [right]
theorem qi2 {a b:Ex} : covers a b=true ↔ b.l≤a.l∧b.s≤a.s∧b.n≤a.n:=by simp [covers]
theorem Rj {c d e:Ce} : good c d=(e,0) ↔ e=d∧d.fine∧aj d:=by
 unfold good
 split
 ·rename_i h;simp [h];exact eq_comm
 ·rename_i h;simp;intro _ h1 h2;exact h ⟨h1,h2⟩
theorem qov (c d:Ce):(good c d=(d,0)∧d.fine∧aj d)∨(good c d=(c,3)∧¬ (d.fine∧aj d)):=by
 unfold good
 split
 ·rename_i h;exact .inl ⟨rfl,h⟩
 ·rename_i h;exact .inr ⟨rfl,h⟩
theorem qxb (c:Ce) (o:Or):(come c o=(c,1)∧(right c=false∨order.right o=false))∨(come c o=(c,3))∨(come c o=(turned c o.d (open_ o) (worth o).1,0)∧aj c∧order.aj o∧(worth o).2=0∧(turned c o.d (open_ o) (worth o).1).fine∧aj (turned c o.d (open_ o) (worth o).1)):=by
 unfold come
 split
 ·rename_i h;exact .inl ⟨rfl,h⟩
 rename_i h
 simp only [not_or,Bool.not_eq_false] at h
 split
 ·exact .inr (.inl rfl)
 rename_i h2
 simp only [ne_eq,Decidable.not_not] at h2
 rcases qov c (turned c o.d (open_ o) (worth o).1) with ⟨e,h3⟩ | ⟨e,h3⟩
 ·exact .inr (.inr ⟨e,dh.1 h.1,order.dh.1 h.2,h2,h3.1,h3.2⟩)
 ·exact .inr (.inl e)
theorem qms {c d:Ce} {o:Or} (h:come c o=(d,0)):d=turned c o.d (open_ o) (worth o).1∧aj c∧order.aj o∧(worth o).2=0∧d.fine∧aj d:=by
 rcases qxb c o with ⟨e,_⟩ | e | ⟨e,h1,h2,h3,h4,h5⟩
 ·rw [e] at h;simp at h
 ·rw [e] at h;simp at h
 ·rw [e] at h
  simp only [Prod.mk.injEq,and_true] at h
  subst h
  exact ⟨rfl,h1,h2,h3,h4,h5⟩
theorem ql4 {c d x:Ce} {e:Int} (hc:c.fine) (h:good c d=(x,e)):x.fine:=by
 rcases qov c d with ⟨k,h1,_⟩ | ⟨k,_⟩<;>rw [k] at h<;>simp only [Prod.mk.injEq] at h<;>obtain ⟨rfl,rfl⟩:=h
 ·exact h1
 ·exact hc
theorem Rk {c d:Ce} {o:Or} {e:Int} (hc:c.fine) (h:come c o=(d,e)):d.fine:=by
 unfold come at h
 split at h
 ·simp only [Prod.mk.injEq] at h;obtain ⟨rfl,rfl⟩:=h;exact hc
 split at h
 ·simp only [Prod.mk.injEq] at h;obtain ⟨rfl,rfl⟩:=h;exact hc
 exact ql4 hc h
theorem qkm {c d:Ce} {o:Or} {e:Int} (hc:c.fine) (h:go c o=(d,e)):d.fine:=by
 unfold go at h
 split at h
 ·simp only [Prod.mk.injEq] at h;obtain ⟨rfl,rfl⟩:=h;exact hc
 split at h
 ·simp only [Prod.mk.injEq] at h;obtain ⟨rfl,rfl⟩:=h;exact hc
 exact ql4 hc h
theorem qny {c d:Ce} {x y e:Int} (hc:c.fine) (h:did c x y=(d,e)):d.fine:=by
 unfold did at h
 split at h
 ·simp only [Prod.mk.injEq] at h;obtain ⟨rfl,rfl⟩:=h;exact hc
 exact ql4 hc h
theorem Yk {o:Or} (h:order.aj o):0≤open_ o:=by
 unfold open_
 unfold order.aj at h
 split
 ·omega
 ·split<;>omega
theorem qji {o:Or} (h:order.aj o):0≤(worth o).1:=by
 by_cases h3:o.h=3
 ·rw [order.qi1 h h3];decide
 unfold worth
 rw [order.dh.2 h,if_neg (by simp),if_neg h3]
 have h1:0≤(o.q - o.f) * o.p:=order.Z8 (by unfold order.aj at h;omega) (by unfold order.aj at h;omega)
 split
 ·decide
 split
 ·rename_i hm
  have h2:0≤(o.m - o.f) * o.r:=order.Z8 (by omega) (by unfold order.aj at h;omega)
  split
  ·decide
  split
  ·exact h2
  ·exact h1
 ·exact h1
theorem Nb {o:Or} (hf:o.fine):jh (open_ o):=by
 unfold open_
 cases hr:order.right o
 ·simp [jh]
 have h:=order.dh.1 hr
 unfold order.aj at h
 unfold order.Or.fine jh at hf
 unfold jh
 split
 ·omega
 ·split<;>omega
theorem Um (o:Or):jh (worth o).1:=by
 unfold worth
 split
 ·simp [jh]
 split
 ·simp [jh]
 split
 ·simp [jh]
 rename_i h1
 simp only [order.fits,Bool.not_eq_false,decide_eq_true_eq] at h1
 split
 ·split
  ·simp [jh]
  rename_i h2
  simp only [order.fits,Bool.not_eq_false,decide_eq_true_eq] at h2
  unfold jh
  split
  ·exact h2
  ·exact h1
 ·exact h1
theorem Jr {c:Ce} {o:Or} (h:right c=false):come c o=(c,1):=by unfold come;simp [h]
end Go.Proofs.YtbbjlfbemibfcaaGreat.cell
end
section
namespace Go.Proofs.YtbbjlfbemibfcaaGreat.cell
set_option maxRecDepth 20000
end Go.Proofs.YtbbjlfbemibfcaaGreat.cell
end
