/-
  CrcMath, FrameMath, SlotM
-/
set_option linter.unusedVariables false
set_option linter.unusedSimpArgs false
section
namespace Go.Proofs.Ytlipgnenbdchmaa.crc
set_option maxRecDepth 20000

/-- one place down. -/
def down (x:Nat):Nat:=if x % 2=1 then (x / 2) ^^^ 3988292384 else x / 2
def downs:Nat→Nat→Nat
  | 0,x=>x
  | k+1,x=>downs k (down x)
/-- a byte comes to it. -/
def byte (x b:Nat):Nat:=downs 8 (x ^^^ b)
def bytes (x:Nat) (l:List Nat):Nat:=l.foldl byte x
/-- what the sum would be,behind bytes of that sum. -/
def more (s:Nat) (l:List Nat):Nat:=bytes (s ^^^ 4294967295) l ^^^ 4294967295

theorem down_even (x:Nat) (h:x % 2=0):down x=x / 2:=by unfold down;rw [if_neg (by omega)]
theorem down_odd (x:Nat) (h:x % 2=1):down x=(x / 2) ^^^ 3988292384:=by unfold down;rw [if_pos h]

theorem xor_lt {a b:Nat} (ha:a < 4294967296) (hb:b < 4294967296):a ^^^ b < 4294967296:=Nat.xor_lt_two_pow (n:=32) ha hb
theorem down_lt {x:Nat} (h:x < 4294967296):down x < 4294967296:=by
  rcases Nat.mod_two_eq_zero_or_one x with e | e
  · rw [down_even x e];omega
  · rw [down_odd x e];exact xor_lt (by omega) (by omega)
theorem downs_lt (k:Nat) {x:Nat} (h:x < 4294967296):downs k x < 4294967296:=by
  induction k generalizing x with
  | zero=>exact h
  | succ k ih=>exact ih (down_lt h)
theorem byte_lt {x b:Nat} (h:x < 4294967296) (hb:b < 4294967296):byte x b < 4294967296:=downs_lt 8 (xor_lt h hb)
theorem bytes_lt (l:List Nat) {x:Nat} (h:x < 4294967296) (hl:∀ b ∈ l,b < 4294967296):bytes x l < 4294967296:=by
  induction l generalizing x with
  | nil=>exact h
  | cons b l ih=>exact ih (byte_lt h (hl b (by simp))) (fun c hc=>hl c (by simp [hc]))
theorem more_lt (l:List Nat) {s:Nat} (h:s < 4294967296) (hl:∀ b ∈ l,b < 4294967296):more s l < 4294967296 :=
  xor_lt (bytes_lt l (xor_lt h (by omega)) hl) (by omega)

end Go.Proofs.Ytlipgnenbdchmaa.crc
end
section
namespace Go.Proofs.Ytlipgnenbdchmaa.frame
set_option maxRecDepth 20000
open Go.Proofs.Ytlipgnenbdchmaa.crc

/-- n in k bytes,the highest first (its lowest k). -/
def be:Nat→Nat→List Nat
  | 0,_=>[]
  | k+1,n=>n / 256 ^ k % 256 :: be k n
/-- what bytes have,the highest first. -/
def num (l:List Nat):Nat:=l.foldl (fun a c=>a * 256+c) 0
/-- n bytes from a place on. -/
def seg (l:List Nat) (a n:Nat):List Nat:=(l.drop a).take n

theorem be_len (k n:Nat):(be k n).length=k:=by
  induction k with
  | zero=>rfl
  | succ k ih=>simp [be,ih]
theorem be_lt (k n:Nat):∀ b ∈ be k n,b < 256:=by
  induction k with
  | zero=>simp [be]
  | succ k ih =>
    intro b hb
    simp only [be,List.mem_cons] at hb
    rcases hb with rfl | hb
    · exact Nat.mod_lt _ (by omega)
    · exact ih b hb
theorem num_from (l:List Nat) (x:Nat):l.foldl (fun a c=>a * 256+c) x=x * 256 ^ l.length+num l:=by
  unfold num
  induction l generalizing x with
  | nil=>simp
  | cons b l ih =>
    simp only [List.foldl_cons,List.length_cons]
    rw [ih,ih (0 * 256+b),Nat.pow_succ,Nat.add_mul,Nat.mul_assoc,Nat.mul_comm 256]
    simp
    omega
theorem num_cons (b:Nat) (l:List Nat):num (b :: l)=b * 256 ^ l.length+num l:=by
  have:=num_from l b
  unfold num at this ⊢
  simpa using this
theorem num_lt (l:List Nat) (h:∀ b ∈ l,b < 256):num l < 256 ^ l.length:=by
  induction l with
  | nil=>simp [num]
  | cons b l ih =>
    rw [num_cons,List.length_cons,Nat.pow_succ]
    have h1:=ih (fun c hc=>h c (by simp [hc]))
    have h2:(b+1) * 256 ^ l.length≤256 * 256 ^ l.length:=Nat.mul_le_mul_right _ (by have:=h b (by simp);omega)
    rw [Nat.add_mul] at h2
    rw [Nat.mul_comm (256 ^ l.length)]
    omega
theorem be_mod (k n m:Nat):be k (m * 256 ^ k+n)=be k n:=by
  induction k generalizing m with
  | zero=>rfl
  | succ k ih =>
    simp only [be]
    rw [Nat.pow_succ]
    have e:m * (256 ^ k * 256)+n=(m * 256) * 256 ^ k+n:=by rw [Nat.mul_assoc,Nat.mul_comm 256]
    rw [e,ih (m * 256)]
    congr 1
    have hp:0 < 256 ^ k:=Nat.pow_pos (by omega)
    rw [Nat.add_comm,Nat.add_mul_div_right _ _ hp,Nat.add_mul_mod_self_right]
theorem be_num (l:List Nat) (h:∀ b ∈ l,b < 256):be l.length (num l)=l:=by
  induction l with
  | nil=>rfl
  | cons b l ih =>
    have hl:=num_lt l (fun c hc=>h c (by simp [hc]))
    have hp:0 < 256 ^ l.length:=Nat.pow_pos (by omega)
    rw [List.length_cons,be,num_cons,be_mod,ih (fun c hc=>h c (by simp [hc]))]
    congr 1
    rw [Nat.add_comm,Nat.add_mul_div_right _ _ hp,Nat.div_eq_of_lt hl,Nat.zero_add]
    exact Nat.mod_eq_of_lt (h b (by simp))
theorem seg_len (l:List Nat) (a n:Nat) (h:a+n≤l.length):(seg l a n).length=n:=by simp [seg];omega
theorem seg_lt {l:List Nat} (h:∀ b ∈ l,b < 256) (a n:Nat):∀ b ∈ seg l a n,b < 256:=fun b hb=>h b (List.mem_of_mem_drop (List.mem_of_mem_take hb))
theorem seg_join (l:List Nat) (a n m:Nat):seg l a n++seg l (a+n) m=seg l a (n+m):=by
  unfold seg
  rw [← List.drop_drop,List.take_add]
theorem be_seg {l:List Nat} (h:∀ b ∈ l,b < 256) (a n:Nat) (hl:a+n≤l.length):be n (num (seg l a n))=seg l a n:=by
  have:=be_num (seg l a n) (seg_lt h a n)
  rwa [seg_len l a n hl] at this

/-- a number as 64 bits,and what 64 bits are as a number. -/
def u (x:Int):Nat:=(x % 18446744073709551616).toNat
def sg (n:Nat):Int:=if n < 9223372036854775808 then (n:Int) else (n:Int) - 18446744073709551616
theorem u_sg {n:Nat} (h:n < 18446744073709551616):u (sg n)=n:=by unfold sg u;split<;>omega
theorem u_nat {n:Nat} (h:n < 18446744073709551616):u (n:Int)=n:=by unfold u;omega
theorem sg_in {n:Nat} (h:n < 18446744073709551616) : -9223372036854775808≤sg n∧sg n≤9223372036854775807:=by unfold sg;split<;>omega

/-- a frame's numbers. -/
structure Fr where
  (e l k b0 b1 b2 b3 b4 b5:Int)
  deriving DecidableEq
def zero:Fr:=⟨0,0,0,0,0,0,0,0,0⟩
def inR (x:Int):Prop := -9223372036854775808≤x∧x≤9223372036854775807
def Fr.fine (f:Fr):Prop:=inR f.e∧inR f.l∧inR f.k∧inR f.b0∧inR f.b1∧inR f.b2∧inR f.b3∧inR f.b4∧inR f.b5
def right (f:Fr):Bool:=decide (1≤f.e∧f.e≤1000000∧1≤f.l∧f.l≤1000000000∧1≤f.k∧f.k≤6)
/-- what is ahead of the sum. -/
def data (f:Fr):List Nat:=be 4 72++(be 4 (u f.e)++(be 8 (u f.l)++(be 4 (u f.k)++(be 8 (u f.b0)++(be 8 (u f.b1)++(be 8 (u f.b2)++(be 8 (u f.b3)++(be 8 (u f.b4)++be 8 (u f.b5)))))))))
/-- four bytes,the lowest first. -/
def le4 (s:Nat):List Nat:=[s % 256,s / 256 % 256,s / 65536 % 256,s / 16777216 % 256]
def enc (f:Fr):List Nat:=data f++le4 (more 0 (data f))
/-- the numbers that stand in bytes. -/
def parse (l:List Nat):Fr :=
  ⟨(num (seg l 4 4):Nat),sg (num (seg l 8 8)),(num (seg l 16 4):Nat),sg (num (seg l 20 8)),sg (num (seg l 28 8)),sg (num (seg l 36 8)),sg (num (seg l 44 8)),sg (num (seg l 52 8)),sg (num (seg l 60 8))⟩
/-- which frame bytes are: 0 and the frame,or an error's number and none. -/
def dec (l:List Nat):Int × Fr :=
  if l.length≠72∨num (seg l 0 4)≠72 then (2,zero)
  else if seg l 68 4≠le4 (more 0 (l.take 68)) then (10,zero)
  else if right (parse l)=true then (0,parse l) else (2,zero)

theorem data_len (f:Fr):(data f).length=68:=by simp [data,be_len]
theorem enc_len (f:Fr):(enc f).length=72:=by simp [enc,data_len,le4]
theorem data_lt (f:Fr):∀ b ∈ data f,b < 256:=by
  intro b hb
  simp only [data,List.mem_append] at hb
  rcases hb with h | h | h | h | h | h | h | h | h | h<;>exact be_lt _ _ b h
theorem le4_lt (s:Nat):∀ b ∈ le4 s,b < 256:=by
  intro b hb;simp [le4] at hb;omega
theorem enc_lt (f:Fr):∀ b ∈ enc f,b < 256:=by
  intro b hb
  simp only [enc,List.mem_append] at hb
  rcases hb with h | h
  · exact data_lt f b h
  · exact le4_lt _ b h
theorem data_parse {l:List Nat} (hl:l.length=72) (h:∀ b ∈ l,b < 256) (h0:num (seg l 0 4)=72):data (parse l)=l.take 68:=by
  have k8:∀ a,a+8≤72→be 8 (u (sg (num (seg l a 8))))=seg l a 8:=fun a ha=>by
    have:=num_lt (seg l a 8) (seg_lt h a 8)
    rw [seg_len l a 8 (by omega)] at this
    rw [u_sg (by simpa using this),be_seg h a 8 (by omega)]
  have k4:∀ a,a+4≤72→be 4 (u ((num (seg l a 4):Nat):Int))=seg l a 4:=fun a ha=>by
    have:=num_lt (seg l a 4) (seg_lt h a 4)
    rw [seg_len l a 4 (by omega)] at this
    rw [u_nat (by omega),be_seg h a 4 (by omega)]
  have k0:be 4 72=seg l 0 4:=by rw [← h0,be_seg h 0 4 (by omega)]
  unfold data parse
  simp only
  rw [k0,k4 4 (by omega),k8 8 (by omega),k4 16 (by omega),k8 20 (by omega),k8 28 (by omega),k8 36 (by omega),k8 44 (by omega),k8 52 (by omega),k8 60 (by omega)]
  rw [seg_join l 52 8 8,seg_join l 44 8 16,seg_join l 36 8 24,seg_join l 28 8 32,seg_join l 20 8 40,seg_join l 16 4 48,seg_join l 8 8 52,seg_join l 4 4 60,seg_join l 0 4 64]
  simp [seg]
theorem parse_fine {l:List Nat} (h:∀ b ∈ l,b < 256):(parse l).fine:=by
  have k8 : ∀ a, inR (sg (num (seg l a 8))):=fun a=>by
    have h1:=num_lt (seg l a 8) (seg_lt h a 8)
    have h2:(256:Nat) ^ (seg l a 8).length≤256 ^ 8:=Nat.pow_le_pow_right (by omega) (by simp [seg];omega)
    exact sg_in (by have:(256:Nat) ^ 8=18446744073709551616:=by decide
                    omega)
  have k4:∀ a,inR ((num (seg l a 4):Nat):Int):=fun a=>by
    have h1:=num_lt (seg l a 4) (seg_lt h a 4)
    have h2:(256:Nat) ^ (seg l a 4).length≤256 ^ 4:=Nat.pow_le_pow_right (by omega) (by simp [seg];omega)
    have:(256:Nat) ^ 4=4294967296:=by decide
    unfold inR;omega
  exact ⟨k4 4,k8 8,k4 16,k8 20,k8 28,k8 36,k8 44,k8 52,k8 60⟩
theorem zero_fine:zero.fine:=by simp [zero,Fr.fine,inR]
theorem dec_fine {l:List Nat} (h:∀ b ∈ l,b < 256):(dec l).2.fine:=by
  unfold dec
  split
  · exact zero_fine
  · split
    · exact zero_fine
    · split
      · exact parse_fine h
      · exact zero_fine
/-- bytes that are read are those of what is read. -/
theorem dec_ok {l:List Nat} (h:∀ b ∈ l,b < 256) (hd:(dec l).1=0):right (dec l).2=true∧enc (dec l).2=l∧l.length=72:=by
  unfold dec at hd ⊢
  split at hd
  · simp at hd
  · rename_i h1
    split at hd
    · simp at hd
    · rename_i h2
      split at hd
      · rename_i h3
        rw [if_neg h1,if_neg h2,if_pos h3]
        have hl:l.length=72:=by omega
        refine ⟨h3,?_,hl⟩
        show data (parse l)++le4 (more 0 (data (parse l)))=l
        rw [data_parse hl h (by omega)]
        have h2' : seg l 68 4=le4 (more 0 (l.take 68)):=by simpa using h2
        rw [← h2']
        unfold seg
        rw [List.take_of_length_le (l:=l.drop 68) (by simp;omega),List.take_append_drop]
      · simp at hd
theorem dec_no {l:List Nat} (hd:(dec l).1≠0):(dec l).2=zero:=by
  unfold dec at hd ⊢
  split
  · rfl
  · rename_i h1
    split
    · rfl
    · rename_i h2
      split
      · rename_i h3
        rw [if_neg h1,if_neg h2,if_pos h3] at hd
        simp at hd
      · rfl
theorem dec_short {l:List Nat} (h:l.length≠72):(dec l).1=2:=by unfold dec;rw [if_pos (.inl h)]

end Go.Proofs.Ytlipgnenbdchmaa.frame
end
section
namespace Go.Proofs.Ytlipgnenbdchmaa.slot
set_option maxRecDepth 20000
open Go.Proofs.Ytlipgnenbdchmaa Go.Proofs.Ytlipgnenbdchmaa.frame
open Go.Proofs.Ytlipgnenbdchmaa.crc (more)
structure Sl where
 g:Int
 l:Int
deriving DecidableEq
def Sl.fine (s:Sl):Prop:=inR s.g∧inR s.l
def sz:Sl:=⟨0,0⟩
def right (s:Sl):Bool:=decide (1≤s.g∧s.g≤1000000000∧0≤s.l∧s.l≤1000000000)
theorem right_iff {s:Sl} : right s=true ↔ 1≤s.g∧s.g≤1000000000∧0≤s.l∧s.l≤1000000000:=by simp [right]
def body (s:Sl):List Nat:=be 8 (u s.g)++be 8 (u s.l)
def enc (s:Sl):List Nat:=body s++le4 (more 0 (body s))
def rd (L:List Nat):Sl:=⟨sg (num (seg L 0 8)),sg (num (seg L 8 8))⟩
def dec (L:List Nat):Sl × Int :=
 if L.length=20 then (if L=enc (rd L) then (if right (rd L)=true then (rd L,0) else (sz,2)) else (sz,10)) else (sz,2)
theorem body_len (s:Sl):(body s).length=16:=by simp [body,be_len]
theorem enc_len (s:Sl):(enc s).length=20:=by simp [enc,body_len,le4]
theorem body_lt (s:Sl):∀ b ∈ body s,b < 256:=fun b hb=>by
 rcases List.mem_append.1 hb with hb | hb<;>exact be_lt _ _ _ hb
theorem enc_lt (s:Sl):∀ b ∈ enc s,b < 256:=fun b hb=>by
 rcases List.mem_append.1 hb with hb | hb
 ·exact body_lt s b hb
 ·exact le4_lt _ b hb
section
variable {L:List Nat} {s t:Sl}
theorem body_rd (hb:∀ b ∈ L,b < 256) (hl:L.length=20):body (rd L)=L.take 16:=by
 have h1:=num_lt _ (seg_lt hb 0 8)
 have h2:=num_lt _ (seg_lt hb 8 8)
 rw [seg_len _ _ _ (by omega)] at h1 h2
 unfold body rd
 rw [u_sg h1,u_sg h2,be_seg hb 0 8 (by omega),be_seg hb 8 8 (by omega)]
 have:=seg_join L 0 8 8
 rw [Nat.zero_add] at this
 rw [this]
 simp [seg]
theorem enc_rd (hb:∀ b ∈ L,b < 256) (hl:L.length=20):(L=enc (rd L)) ↔ seg L 16 4=le4 (more 0 (L.take 16)):=by
 have e:L=L.take 16++seg L 16 4:=by
  have h:(L.drop 16).take 4=L.drop 16:=List.take_of_length_le (by rw [List.length_drop];omega)
  unfold seg
  rw [h,List.take_append_drop]
 unfold enc
 rw [body_rd hb hl]
 constructor
 ·intro h
  have:=congrArg (fun l:List Nat=>l.drop 16) h
  have h9:L.drop 16=(L.take 16++le4 (more 0 (L.take 16))).drop 16:=this
  rw [List.drop_left' (by rw [List.length_take];omega)] at h9
  unfold seg
  rw [h9]
  rfl
 ·intro h
  rw [← h]
  exact e
theorem dec_ok (h:(dec L).2=0):right (dec L).1=true∧enc (dec L).1=L:=by
 unfold dec at *
 split at h
 ·split at h
  ·split at h
   ·rename_i h1 h2 h3
    rw [if_pos h1,if_pos h2,if_pos h3]
    exact ⟨h3,h2.symm⟩
   ·simp at h
  ·simp at h
 ·simp at h
theorem dec_no (h:¬ (dec L).2=0):(dec L).1=sz:=by
 unfold dec at *
 split
 ·split
  ·split
   ·rename_i h1 h2 h3
    rw [if_pos h1,if_pos h2,if_pos h3] at h
    exact absurd rfl h
   ·rfl
  ·rfl
 ·rfl
theorem dec_short (h:¬ L.length=20):dec L=(sz,2):=by unfold dec;rw [if_neg h]
theorem right_fine (h:right s=true):s.fine:=by
 have:=right_iff.1 h
 exact ⟨⟨by omega,by omega⟩,⟨by omega,by omega⟩⟩
end
end Go.Proofs.Ytlipgnenbdchmaa.slot
end
