/-
  FrameMath
-/
import Derived.Test.YtlipgnenbdchmaaMsr12
set_option linter.unusedVariables false
set_option linter.unusedSimpArgs false
namespace Go.Proofs.Ytlipgnenbdchmaa.frame
set_option maxRecDepth 20000
open Go.Proofs.Ytlipgnenbdchmaa.crc

/-- n in k bytes,the highest first (its lowest k). -/
def be:Nat→Nat→List Nat
  | 0,_=>[]
  | k+1,n=>n / 256 ^ k % 256 :: be k n
/-- what bytes have,the highest first. -/
def num (l:List Nat):Nat:=l.foldl (fun a c=>a * 256+c) 0
/-- n bytes from a place on. -/
def seg (l:List Nat) (a n:Nat):List Nat:=(l.drop a).take n

theorem be_len (k n:Nat):(be k n).length=k:=by
  induction k with
  | zero=>rfl
  | succ k ih=>simp [be,ih]
theorem be_lt (k n:Nat):∀ b ∈ be k n,b < 256:=by
  induction k with
  | zero=>simp [be]
  | succ k ih =>
    intro b hb
    simp only [be,List.mem_cons] at hb
    rcases hb with rfl | hb
    · exact Nat.mod_lt _ (by omega)
    · exact ih b hb
theorem num_from (l:List Nat) (x:Nat):l.foldl (fun a c=>a * 256+c) x=x * 256 ^ l.length+num l:=by
  unfold num
  induction l generalizing x with
  | nil=>simp
  | cons b l ih =>
    simp only [List.foldl_cons,List.length_cons]
    rw [ih,ih (0 * 256+b),Nat.pow_succ,Nat.add_mul,Nat.mul_assoc,Nat.mul_comm 256]
    simp
    omega
theorem num_cons (b:Nat) (l:List Nat):num (b :: l)=b * 256 ^ l.length+num l:=by
  have:=num_from l b
  unfold num at this ⊢
  simpa using this
theorem num_lt (l:List Nat) (h:∀ b ∈ l,b < 256):num l < 256 ^ l.length:=by
  induction l with
  | nil=>simp [num]
  | cons b l ih =>
    rw [num_cons,List.length_cons,Nat.pow_succ]
    have h1:=ih (fun c hc=>h c (by simp [hc]))
    have h2:(b+1) * 256 ^ l.length≤256 * 256 ^ l.length:=Nat.mul_le_mul_right _ (by have:=h b (by simp);omega)
    rw [Nat.add_mul] at h2
    rw [Nat.mul_comm (256 ^ l.length)]
    omega
theorem num_be (k n:Nat):num (be k n)=n % 256 ^ k:=by
  induction k with
  | zero=>simp [be,num,Nat.mod_one]
  | succ k ih =>
    rw [be,num_cons,be_len,ih,Nat.pow_succ,Nat.mod_mul]
    rw [Nat.mul_comm,Nat.add_comm]
theorem be_mod (k n m:Nat):be k (m * 256 ^ k+n)=be k n:=by
  induction k generalizing m with
  | zero=>rfl
  | succ k ih =>
    simp only [be]
    rw [Nat.pow_succ]
    have e:m * (256 ^ k * 256)+n=(m * 256) * 256 ^ k+n:=by rw [Nat.mul_assoc,Nat.mul_comm 256]
    rw [e,ih (m * 256)]
    congr 1
    have hp:0 < 256 ^ k:=Nat.pow_pos (by omega)
    rw [Nat.add_comm,Nat.add_mul_div_right _ _ hp,Nat.add_mul_mod_self_right]
theorem be_num (l:List Nat) (h:∀ b ∈ l,b < 256):be l.length (num l)=l:=by
  induction l with
  | nil=>rfl
  | cons b l ih =>
    have hl:=num_lt l (fun c hc=>h c (by simp [hc]))
    have hp:0 < 256 ^ l.length:=Nat.pow_pos (by omega)
    rw [List.length_cons,be,num_cons,be_mod,ih (fun c hc=>h c (by simp [hc]))]
    congr 1
    rw [Nat.add_comm,Nat.add_mul_div_right _ _ hp,Nat.div_eq_of_lt hl,Nat.zero_add]
    exact Nat.mod_eq_of_lt (h b (by simp))
theorem seg_len (l:List Nat) (a n:Nat) (h:a+n≤l.length):(seg l a n).length=n:=by simp [seg];omega
theorem seg_lt {l:List Nat} (h:∀ b ∈ l,b < 256) (a n:Nat):∀ b ∈ seg l a n,b < 256:=fun b hb=>h b (List.mem_of_mem_drop (List.mem_of_mem_take hb))
theorem seg_join (l:List Nat) (a n m:Nat):seg l a n++seg l (a+n) m=seg l a (n+m):=by
  unfold seg
  rw [← List.drop_drop,List.take_add]
theorem be_seg {l:List Nat} (h:∀ b ∈ l,b < 256) (a n:Nat) (hl:a+n≤l.length):be n (num (seg l a n))=seg l a n:=by
  have:=be_num (seg l a n) (seg_lt h a n)
  rwa [seg_len l a n hl] at this

/-- a number as 64 bits,and what 64 bits are as a number. -/
def u (x:Int):Nat:=(x % 18446744073709551616).toNat
def sg (n:Nat):Int:=if n < 9223372036854775808 then (n:Int) else (n:Int) - 18446744073709551616
theorem u_lt (x:Int):u x < 18446744073709551616:=by unfold u;omega
theorem sg_u {x:Int} (h : -9223372036854775808≤x∧x≤9223372036854775807):sg (u x)=x:=by unfold sg u;split<;>omega
theorem u_sg {n:Nat} (h:n < 18446744073709551616):u (sg n)=n:=by unfold sg u;split<;>omega
theorem u_nat {n:Nat} (h:n < 18446744073709551616):u (n:Int)=n:=by unfold u;omega
/-- a frame's numbers. -/
structure Fr where
  (e l k b0 b1 b2 b3 b4 b5:Int)
  deriving DecidableEq
def zero:Fr:=⟨0,0,0,0,0,0,0,0,0⟩
def inR (x:Int):Prop := -9223372036854775808≤x∧x≤9223372036854775807
def Fr.fine (f:Fr):Prop:=inR f.e∧inR f.l∧inR f.k∧inR f.b0∧inR f.b1∧inR f.b2∧inR f.b3∧inR f.b4∧inR f.b5
def right (f:Fr):Bool:=decide (1≤f.e∧f.e≤1000000∧1≤f.l∧f.l≤1000000000∧1≤f.k∧f.k≤6)
/-- what is ahead of the sum. -/
def data (f:Fr):List Nat:=be 4 72++(be 4 (u f.e)++(be 8 (u f.l)++(be 4 (u f.k)++(be 8 (u f.b0)++(be 8 (u f.b1)++(be 8 (u f.b2)++(be 8 (u f.b3)++(be 8 (u f.b4)++be 8 (u f.b5)))))))))
/-- four bytes,the lowest first. -/
def le4 (s:Nat):List Nat:=[s % 256,s / 256 % 256,s / 65536 % 256,s / 16777216 % 256]
def enc (f:Fr):List Nat:=data f++le4 (more 0 (data f))
/-- the numbers that stand in bytes. -/
def parse (l:List Nat):Fr :=
  ⟨(num (seg l 4 4):Nat),sg (num (seg l 8 8)),(num (seg l 16 4):Nat),sg (num (seg l 20 8)),sg (num (seg l 28 8)),sg (num (seg l 36 8)),sg (num (seg l 44 8)),sg (num (seg l 52 8)),sg (num (seg l 60 8))⟩
/-- which frame bytes are: 0 and the frame,or an error's number and none. -/
def dec (l:List Nat):Int × Fr :=
  if l.length≠72∨num (seg l 0 4)≠72 then (2,zero)
  else if seg l 68 4≠le4 (more 0 (l.take 68)) then (10,zero)
  else if right (parse l)=true then (0,parse l) else (2,zero)

theorem data_len (f:Fr):(data f).length=68:=by simp [data,be_len]
theorem enc_len (f:Fr):(enc f).length=72:=by simp [enc,data_len,le4]
theorem data_lt (f:Fr):∀ b ∈ data f,b < 256:=by
  intro b hb
  simp only [data,List.mem_append] at hb
  rcases hb with h | h | h | h | h | h | h | h | h | h<;>exact be_lt _ _ b h
theorem le4_lt (s:Nat):∀ b ∈ le4 s,b < 256:=by
  intro b hb;simp [le4] at hb;omega
theorem enc_lt (f:Fr):∀ b ∈ enc f,b < 256:=by
  intro b hb
  simp only [enc,List.mem_append] at hb
  rcases hb with h | h
  · exact data_lt f b h
  · exact le4_lt _ b h
theorem enc_take (f:Fr):(enc f).take 68=data f:=by
  have:=data_len f
  unfold enc;rw [List.take_append_of_le_length (by omega),List.take_of_length_le (by omega)]
theorem enc_seg (f:Fr):seg (enc f) 68 4=le4 (more 0 (data f)):=by
  have:=data_len f
  unfold enc seg;rw [List.drop_append_of_le_length (by omega),List.drop_of_length_le (by omega)];rfl
theorem right_fit {f:Fr} (h:right f=true):1≤f.e∧f.e≤1000000∧1≤f.l∧f.l≤1000000000∧1≤f.k∧f.k≤6:=by simpa [right] using h
theorem parse_enc (f:Fr) (hf:f.fine) (h:right f=true):parse (enc f)=f:=by
  obtain ⟨h1,h2,h3,h4,h5,h6⟩:=right_fit h
  obtain ⟨_,g2,_,g4,g5,g6,g7,g8,g9⟩:=hf
  have e1:seg (enc f) 4 4=be 4 (u f.e):=rfl
  have e2:seg (enc f) 8 8=be 8 (u f.l):=rfl
  have e3:seg (enc f) 16 4=be 4 (u f.k):=rfl
  have e4:seg (enc f) 20 8=be 8 (u f.b0):=rfl
  have e5:seg (enc f) 28 8=be 8 (u f.b1):=rfl
  have e6:seg (enc f) 36 8=be 8 (u f.b2):=rfl
  have e7:seg (enc f) 44 8=be 8 (u f.b3):=rfl
  have e8:seg (enc f) 52 8=be 8 (u f.b4):=rfl
  have e9:seg (enc f) 60 8=be 8 (u f.b5):=rfl
  have k8:∀ x,inR x→sg (num (be 8 (u x)))=x:=fun x hx=>by
    rw [num_be,Nat.mod_eq_of_lt (by have:=u_lt x;simpa using this)];exact sg_u hx
  have k4:∀ x:Int,0≤x→x < 4294967296→((num (be 4 (u x)):Nat):Int)=x:=fun x h0 hx=>by
    rw [num_be];unfold u;simp;omega
  unfold parse
  rw [e1,e2,e3,e4,e5,e6,e7,e8,e9,k8 _ g2,k8 _ g4,k8 _ g5,k8 _ g6,k8 _ g7,k8 _ g8,k8 _ g9,k4 _ (by omega) (by omega),k4 _ (by omega) (by omega)]
theorem dec_enc (f:Fr) (hf:f.fine) (h:right f=true):dec (enc f)=(0,f):=by
  have e0:num (seg (enc f) 0 4)=72:=by rw [show seg (enc f) 0 4=be 4 72 from rfl];decide
  unfold dec
  rw [if_neg (by rw [enc_len,e0];simp),if_neg (by rw [enc_take,enc_seg];simp),parse_enc f hf h,if_pos h]
theorem data_parse {l:List Nat} (hl:l.length=72) (h:∀ b ∈ l,b < 256) (h0:num (seg l 0 4)=72):data (parse l)=l.take 68:=by
  have k8:∀ a,a+8≤72→be 8 (u (sg (num (seg l a 8))))=seg l a 8:=fun a ha=>by
    have:=num_lt (seg l a 8) (seg_lt h a 8)
    rw [seg_len l a 8 (by omega)] at this
    rw [u_sg (by simpa using this),be_seg h a 8 (by omega)]
  have k4:∀ a,a+4≤72→be 4 (u ((num (seg l a 4):Nat):Int))=seg l a 4:=fun a ha=>by
    have:=num_lt (seg l a 4) (seg_lt h a 4)
    rw [seg_len l a 4 (by omega)] at this
    rw [u_nat (by omega),be_seg h a 4 (by omega)]
  have k0:be 4 72=seg l 0 4:=by rw [← h0,be_seg h 0 4 (by omega)]
  unfold data parse
  simp only
  rw [k0,k4 4 (by omega),k8 8 (by omega),k4 16 (by omega),k8 20 (by omega),k8 28 (by omega),k8 36 (by omega),k8 44 (by omega),k8 52 (by omega),k8 60 (by omega)]
  rw [seg_join l 52 8 8,seg_join l 44 8 16,seg_join l 36 8 24,seg_join l 28 8 32,seg_join l 20 8 40,seg_join l 16 4 48,seg_join l 8 8 52,seg_join l 4 4 60,seg_join l 0 4 64]
  simp [seg]
/-- bytes that are read are those of what is read. -/
theorem dec_ok {l:List Nat} (h:∀ b ∈ l,b < 256) (hd:(dec l).1=0):right (dec l).2=true∧enc (dec l).2=l∧l.length=72:=by
  unfold dec at hd ⊢
  split at hd
  · simp at hd
  · rename_i h1
    split at hd
    · simp at hd
    · rename_i h2
      split at hd
      · rename_i h3
        rw [if_neg h1,if_neg h2,if_pos h3]
        have hl:l.length=72:=by omega
        refine ⟨h3,?_,hl⟩
        show data (parse l)++le4 (more 0 (data (parse l)))=l
        rw [data_parse hl h (by omega)]
        have h2' : seg l 68 4=le4 (more 0 (l.take 68)):=by simpa using h2
        rw [← h2']
        unfold seg
        rw [List.take_of_length_le (l:=l.drop 68) (by simp;omega),List.take_append_drop]
      · simp at hd
theorem dec_short {l:List Nat} (h:l.length≠72):(dec l).1=2:=by unfold dec;rw [if_pos (.inl h)]

end Go.Proofs.Ytlipgnenbdchmaa.frame
