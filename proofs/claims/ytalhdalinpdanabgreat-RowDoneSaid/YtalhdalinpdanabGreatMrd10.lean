/-
  CrcMath, FrameMath, RecMath, OrdMath, CellMath, CellMath2
-/
set_option linter.unusedVariables false
set_option linter.unusedSimpArgs false
section
namespace Go.Proofs.YtalhdalinpdanabGreat.crc
set_option maxRecDepth 20000

/-- one place down. -/
def down (x:Nat):Nat:=if x % 2=1 then (x / 2) ^^^ 3988292384 else x / 2
def downs:Nat→Nat→Nat
  | 0,x=>x
  | k+1,x=>downs k (down x)
/-- a byte comes to it. -/
def byte (x b:Nat):Nat:=downs 8 (x ^^^ b)
def bytes (x:Nat) (l:List Nat):Nat:=l.foldl byte x
/-- what the sum would be,behind bytes of that sum. -/
def more (s:Nat) (l:List Nat):Nat:=bytes (s ^^^ 4294967295) l ^^^ 4294967295

theorem down_even (x:Nat) (h:x % 2=0):down x=x / 2:=by unfold down;rw [if_neg (by omega)]
theorem down_odd (x:Nat) (h:x % 2=1):down x=(x / 2) ^^^ 3988292384:=by unfold down;rw [if_pos h]

theorem xor_lt {a b:Nat} (ha:a < 4294967296) (hb:b < 4294967296):a ^^^ b < 4294967296:=Nat.xor_lt_two_pow (n:=32) ha hb
theorem down_lt {x:Nat} (h:x < 4294967296):down x < 4294967296:=by
  rcases Nat.mod_two_eq_zero_or_one x with e | e
  · rw [down_even x e];omega
  · rw [down_odd x e];exact xor_lt (by omega) (by omega)
theorem downs_lt (k:Nat) {x:Nat} (h:x < 4294967296):downs k x < 4294967296:=by
  induction k generalizing x with
  | zero=>exact h
  | succ k ih=>exact ih (down_lt h)
theorem byte_lt {x b:Nat} (h:x < 4294967296) (hb:b < 4294967296):byte x b < 4294967296:=downs_lt 8 (xor_lt h hb)
theorem bytes_lt (l:List Nat) {x:Nat} (h:x < 4294967296) (hl:∀ b ∈ l,b < 4294967296):bytes x l < 4294967296:=by
  induction l generalizing x with
  | nil=>exact h
  | cons b l ih=>exact ih (byte_lt h (hl b (by simp))) (fun c hc=>hl c (by simp [hc]))
theorem more_lt (l:List Nat) {s:Nat} (h:s < 4294967296) (hl:∀ b ∈ l,b < 4294967296):more s l < 4294967296 :=
  xor_lt (bytes_lt l (xor_lt h (by omega)) hl) (by omega)

end Go.Proofs.YtalhdalinpdanabGreat.crc
end
section
namespace Go.Proofs.YtalhdalinpdanabGreat.frame
set_option maxRecDepth 20000
open Go.Proofs.YtalhdalinpdanabGreat.crc

/-- n in k bytes,the highest first (its lowest k). -/
def be:Nat→Nat→List Nat
  | 0,_=>[]
  | k+1,n=>n / 256 ^ k % 256 :: be k n
/-- what bytes have,the highest first. -/
def num (l:List Nat):Nat:=l.foldl (fun a c=>a * 256+c) 0
/-- n bytes from a place on. -/
def seg (l:List Nat) (a n:Nat):List Nat:=(l.drop a).take n

theorem be_len (k n:Nat):(be k n).length=k:=by
  induction k with
  | zero=>rfl
  | succ k ih=>simp [be,ih]
theorem be_lt (k n:Nat):∀ b ∈ be k n,b < 256:=by
  induction k with
  | zero=>simp [be]
  | succ k ih =>
    intro b hb
    simp only [be,List.mem_cons] at hb
    rcases hb with rfl | hb
    · exact Nat.mod_lt _ (by omega)
    · exact ih b hb
theorem num_from (l:List Nat) (x:Nat):l.foldl (fun a c=>a * 256+c) x=x * 256 ^ l.length+num l:=by
  unfold num
  induction l generalizing x with
  | nil=>simp
  | cons b l ih =>
    simp only [List.foldl_cons,List.length_cons]
    rw [ih,ih (0 * 256+b),Nat.pow_succ,Nat.add_mul,Nat.mul_assoc,Nat.mul_comm 256]
    simp
    omega
theorem num_cons (b:Nat) (l:List Nat):num (b :: l)=b * 256 ^ l.length+num l:=by
  have:=num_from l b
  unfold num at this ⊢
  simpa using this
theorem num_lt (l:List Nat) (h:∀ b ∈ l,b < 256):num l < 256 ^ l.length:=by
  induction l with
  | nil=>simp [num]
  | cons b l ih =>
    rw [num_cons,List.length_cons,Nat.pow_succ]
    have h1:=ih (fun c hc=>h c (by simp [hc]))
    have h2:(b+1) * 256 ^ l.length≤256 * 256 ^ l.length:=Nat.mul_le_mul_right _ (by have:=h b (by simp);omega)
    rw [Nat.add_mul] at h2
    rw [Nat.mul_comm (256 ^ l.length)]
    omega
theorem num_be (k n:Nat):num (be k n)=n % 256 ^ k:=by
  induction k with
  | zero=>simp [be,num,Nat.mod_one]
  | succ k ih =>
    rw [be,num_cons,be_len,ih,Nat.pow_succ,Nat.mod_mul]
    rw [Nat.mul_comm,Nat.add_comm]
theorem seg_lt {l:List Nat} (h:∀ b ∈ l,b < 256) (a n:Nat):∀ b ∈ seg l a n,b < 256:=fun b hb=>h b (List.mem_of_mem_drop (List.mem_of_mem_take hb))
/-- a number as 64 bits,and what 64 bits are as a number. -/
def u (x:Int):Nat:=(x % 18446744073709551616).toNat
def sg (n:Nat):Int:=if n < 9223372036854775808 then (n:Int) else (n:Int) - 18446744073709551616
theorem sg_in {n:Nat} (h:n < 18446744073709551616) : -9223372036854775808≤sg n∧sg n≤9223372036854775807:=by unfold sg;split<;>omega

/-- a frame's numbers. -/
structure Fr where
  (e l k b0 b1 b2 b3 b4 b5:Int)
  deriving DecidableEq
def zero:Fr:=⟨0,0,0,0,0,0,0,0,0⟩
def inR (x:Int):Prop := -9223372036854775808≤x∧x≤9223372036854775807
def Fr.fine (f:Fr):Prop:=inR f.e∧inR f.l∧inR f.k∧inR f.b0∧inR f.b1∧inR f.b2∧inR f.b3∧inR f.b4∧inR f.b5
def right (f:Fr):Bool:=decide (1≤f.e∧f.e≤1000000∧1≤f.l∧f.l≤1000000000∧1≤f.k∧f.k≤6)
/-- what is ahead of the sum. -/
def data (f:Fr):List Nat:=be 4 72++(be 4 (u f.e)++(be 8 (u f.l)++(be 4 (u f.k)++(be 8 (u f.b0)++(be 8 (u f.b1)++(be 8 (u f.b2)++(be 8 (u f.b3)++(be 8 (u f.b4)++be 8 (u f.b5)))))))))
/-- four bytes,the lowest first. -/
def le4 (s:Nat):List Nat:=[s % 256,s / 256 % 256,s / 65536 % 256,s / 16777216 % 256]
def enc (f:Fr):List Nat:=data f++le4 (more 0 (data f))
/-- the numbers that stand in bytes. -/
def parse (l:List Nat):Fr :=
  ⟨(num (seg l 4 4):Nat),sg (num (seg l 8 8)),(num (seg l 16 4):Nat),sg (num (seg l 20 8)),sg (num (seg l 28 8)),sg (num (seg l 36 8)),sg (num (seg l 44 8)),sg (num (seg l 52 8)),sg (num (seg l 60 8))⟩
/-- which frame bytes are: 0 and the frame,or an error's number and none. -/
def dec (l:List Nat):Int × Fr :=
  if l.length≠72∨num (seg l 0 4)≠72 then (2,zero)
  else if seg l 68 4≠le4 (more 0 (l.take 68)) then (10,zero)
  else if right (parse l)=true then (0,parse l) else (2,zero)

theorem parse_fine {l:List Nat} (h:∀ b ∈ l,b < 256):(parse l).fine:=by
  have k8 : ∀ a, inR (sg (num (seg l a 8))):=fun a=>by
    have h1:=num_lt (seg l a 8) (seg_lt h a 8)
    have h2:(256:Nat) ^ (seg l a 8).length≤256 ^ 8:=Nat.pow_le_pow_right (by omega) (by simp [seg];omega)
    exact sg_in (by have:(256:Nat) ^ 8=18446744073709551616:=by decide
                    omega)
  have k4:∀ a,inR ((num (seg l a 4):Nat):Int):=fun a=>by
    have h1:=num_lt (seg l a 4) (seg_lt h a 4)
    have h2:(256:Nat) ^ (seg l a 4).length≤256 ^ 4:=Nat.pow_le_pow_right (by omega) (by simp [seg];omega)
    have:(256:Nat) ^ 4=4294967296:=by decide
    unfold inR;omega
  exact ⟨k4 4,k8 8,k4 16,k8 20,k8 28,k8 36,k8 44,k8 52,k8 60⟩
theorem zero_fine:zero.fine:=by simp [zero,Fr.fine,inR]
theorem dec_fine {l:List Nat} (h:∀ b ∈ l,b < 256):(dec l).2.fine:=by
  unfold dec
  split
  · exact zero_fine
  · split
    · exact zero_fine
    · split
      · exact parse_fine h
      · exact zero_fine
end Go.Proofs.YtalhdalinpdanabGreat.frame
end
section
namespace Go.Proofs.YtalhdalinpdanabGreat.rec
set_option maxRecDepth 20000
open Go.Proofs.YtalhdalinpdanabGreat.frame (inR)
structure Rc where
 (k o a y d q p l s n:Int) (on:Bool) (z t:Int)
 deriving DecidableEq
structure Ns where
 (b0 b1 b2 b3 b4 b5:Int)
 deriving DecidableEq
def Rc.fine (r:Rc):Prop:=inR r.k∧inR r.o∧inR r.a∧inR r.y∧inR r.d∧inR r.q∧inR r.p∧inR r.l∧inR r.s∧inR r.n∧inR r.z∧inR r.t
def Ns.fine (b:Ns):Prop:=inR b.b0∧inR b.b1∧inR b.b2∧inR b.b3∧inR b.b4∧inR b.b5
def nz:Ns:=⟨0,0,0,0,0,0⟩
def nums (r:Rc):Ns :=
 if r.k=1 then ⟨r.o,r.a,r.y,r.d,r.q,r.p⟩
 else if r.k=2 then ⟨r.o,r.q,r.p,0,0,0⟩
 else if r.k=3 then ⟨r.o,0,0,0,0,0⟩
 else if r.k=4 then ⟨r.a,r.y,r.l,r.s,r.n,0⟩
 else if r.k=5 then (if r.on=true then ⟨1,0,0,0,0,0⟩ else nz)
 else if r.k=6 then ⟨r.z,r.t,r.o,r.q,r.p,0⟩
 else nz
def rd (k:Int) (b:Ns):Rc :=
 if k=1 then ⟨k,b.b0,b.b1,b.b2,b.b3,b.b4,b.b5,0,0,0,false,0,0⟩
 else if k=2 then ⟨k,b.b0,0,0,0,b.b1,b.b2,0,0,0,false,0,0⟩
 else if k=3 then ⟨k,b.b0,0,0,0,0,0,0,0,0,false,0,0⟩
 else if k=4 then ⟨k,0,b.b0,b.b1,0,0,0,b.b2,b.b3,b.b4,false,0,0⟩
 else if k=5 then ⟨k,0,0,0,0,0,0,0,0,0,decide (b.b0=1),0,0⟩
 else if k=6 then ⟨k,b.b2,0,0,0,b.b3,b.b4,0,0,0,false,b.b0,b.b1⟩
 else ⟨k,0,0,0,0,0,0,0,0,0,false,0,0⟩
def mayOrder (o:Int):Bool:=decide (1≤o∧o≤1000000000000)
def mayAcc (a:Int):Bool:=decide (0≤a∧a < 8)
def mayAsk (q p:Int):Bool:=decide (1≤q∧1≤p)
def mayBound (y l s n:Int):Bool:=if y = -1 then decide (l=0∧s=0∧0≤n) else mayAcc y && decide (0≤l∧0≤s∧0≤n)
def mayTell (t q p:Int):Bool :=
 if t=3 then decide (1≤q∧p=0)
 else if t=5 then mayAsk q p
 else if t=1∨t=2∨t=4∨t=6 then decide (q=0∧p=0)
 else false
def may (r:Rc):Bool :=
 if r.k=1 then mayOrder r.o && mayAcc r.a && mayAcc r.y && decide (r.d=1∨r.d=2) && mayAsk r.q r.p
 else if r.k=2 then mayOrder r.o && mayAsk r.q r.p
 else if r.k=3 then mayOrder r.o
 else if r.k=4 then mayAcc r.a && mayBound r.y r.l r.s r.n
 else if r.k=5 then true
 else if r.k=6 then decide (1≤r.z∧r.z≤1000000000) && mayOrder r.o && mayTell r.t r.q r.p
 else false
def right (r:Rc):Bool:=may r && decide (rd r.k (nums r)=r)
theorem right_kind {r:Rc} (h:right r=true):1≤r.k∧r.k≤6:=by
 unfold right may at h
 rw [Bool.and_eq_true] at h
 have h:=h.1
 repeat' split at h
 all_goals first | omega | cases h
theorem in0:inR 0:=by simp [inR]
theorem in1:inR 1:=by simp [inR]
theorem nums_fine {r:Rc} (h:r.fine):(nums r).fine:=by
 obtain ⟨h1,h2,h3,h4,h5,h6,h7,h8,h9,h10,h11,h12⟩:=h
 unfold nums
 repeat' split
 all_goals simp only [Ns.fine,nz,in0,in1, *,and_self]
theorem rd_fine {k:Int} {b:Ns} (hk:inR k) (h:b.fine):(rd k b).fine:=by
 obtain ⟨h1,h2,h3,h4,h5,h6⟩:=h
 unfold rd
 repeat' split
 all_goals refine ⟨hk,?_,?_,?_,?_,?_,?_,?_,?_,?_,?_,?_⟩<;>first | assumption | exact in0
def fr (r:Rc) (e l:Int):frame.Fr:=⟨e,l,r.k,(nums r).b0,(nums r).b1,(nums r).b2,(nums r).b3,(nums r).b4,(nums r).b5⟩
end Go.Proofs.YtalhdalinpdanabGreat.rec
end
section
namespace Go.Proofs.YtalhdalinpdanabGreat.order
set_option maxRecDepth 20000
open Go.Proofs.YtalhdalinpdanabGreat.frame (inR)
open Go.Proofs.YtalhdalinpdanabGreat.rec (Rc mayTell mayOrder mayAcc mayAsk)
structure Or where
 (i a y d q p f h m r v:Int) (g:Bool)
 deriving DecidableEq
structure Nt where
 (z t o q p:Int)
 deriving DecidableEq
def Or.fine (o:Or):Prop:=inR o.i∧inR o.a∧inR o.y∧inR o.d∧inR o.q∧inR o.p∧inR o.f∧inR o.h∧inR o.m∧inR o.r∧inR o.v
def oz:Or:=⟨0,0,0,0,0,0,0,0,0,0,0,false⟩
def Nt.rc (n:Nt):Rc:=⟨6,n.o,0,0,0,n.q,n.p,0,0,0,false,n.z,n.t⟩
def noteOk (n:Nt):Bool:=rec.right n.rc
def Rightly (o:Or):Prop :=
 (1≤o.i∧o.i≤1000000000000∧0≤o.a∧o.a < 8∧0≤o.y∧o.y < 8∧1≤o.d∧o.d≤2∧1≤o.q∧1≤o.p)∧0≤o.f∧o.f≤o.q∧0≤o.v∧((o.m=0∧o.r=0)∨(1≤o.m∧1≤o.r)) ∧
 ((o.h=1∧o.m=0∧o.r=0∧o.f=0∧o.v=0)∨(o.h=2∧o.f≠o.q)∨(o.h=3∧o.m=0∧o.r=0))
instance (o:Or):Decidable (Rightly o):=by unfold Rightly;infer_instance
def right (o:Or):Bool:=decide (Rightly o)
def begin_ (r:Rc):Or × Int:=if r.k=1∧rec.right r=true then (⟨r.o,r.a,r.y,r.d,r.q,r.p,0,1,0,0,0,false⟩,0) else (oz,1)
def done (o:Or):Or:={ o with h:=3,m:=0,r:=0 }
def take (o:Or) (n:Nt):Or × Int :=
 if right o=false∨noteOk n=false∨n.o≠o.i then (o,1)
 else if o.h=1∧n.t=1 then ({ o with h:=2 },0)
 else if (o.h=1∧n.t=2)∨(o.h=2∧n.t=4) then (done o,0)
 else if o.h=2∧n.t=3∧n.q≤o.q - o.f then (if n.q < o.q - o.f then { o with f:=o.f+n.q } else done { o with f:=o.f+n.q },0)
 else if o.h=2∧0 < o.m∧n.t=6 then ({ o with m:=0,r:=0 },0)
 else if o.h=2∧0 < o.m∧n.t=5∧n.q=o.m∧n.p=o.r∧o.f < n.q then ({ o with q:=n.q,p:=n.p,m:=0,r:=0 },0)
 else (o,8)
def change (o:Or) (x z:Int):Or × Int :=
 if right o=false∨x < 1∨z < 1∨o.v=9223372036854775807 then (o,1)
 else if o.h≠2∨o.m≠0∨o.g=true then (o,8)
 else ({ o with m:=x,r:=z,v:=o.v+1 },0)
def stop (o:Or):Or × Int :=
 if right o=false then (o,1) else if o.g=true∨o.h=3 then (o,8) else ({ o with g:=true },0)
def open_ (o:Or):Int:=if right o=false∨o.h=3 then 0 else if o.q < o.m then o.m - o.f else o.q - o.f
def fits (x:Int):Bool:=decide (-9223372036854775808≤x∧x≤9223372036854775807)
def worth (o:Or):Int × Int :=
 if right o=false then (0,1) else if o.h=3 then (0,0)
 else if fits ((o.q - o.f) * o.p)=false then (0,3)
 else if o.f < o.m then (if fits ((o.m - o.f) * o.r)=false then (0,3) else if (o.q - o.f) * o.p < (o.m - o.f) * o.r then ((o.m - o.f) * o.r,0) else ((o.q - o.f) * o.p,0))
 else ((o.q - o.f) * o.p,0)
theorem right_iff {o:Or} : right o=true ↔ Rightly o:=by simp [right]
theorem right_no {o:Or} : right o=false ↔ ¬ Rightly o:=by simp [right]
theorem noteOk_iff {n:Nt} : noteOk n=true ↔ (1≤n.z∧n.z≤1000000000)∧(1≤n.o∧n.o≤1000000000000)∧mayTell n.t n.q n.p=true:=by
 unfold noteOk rec.right rec.may Nt.rc
 simp [rec.rd,rec.nums,mayOrder,and_assoc]
theorem tell_fill {q p:Int} (h:mayTell 3 q p=true):1≤q∧p=0:=by simpa [mayTell] using h
theorem mul_le {a b p:Int} (hp:0≤p) (h:a≤b):a * p≤b * p:=Int.mul_le_mul_of_nonneg_right h hp
theorem mul_nn {a p:Int} (ha:0≤a) (hp:0≤p):0≤a * p:=Int.mul_nonneg ha hp
theorem fits_less {x y:Int} (h0:0≤x) (h:x≤y) (hy:fits y=true):fits x=true:=by
 unfold fits at *;simp at *;omega
inductive Took (o:Or) (n:Nt):Or→Prop
 |ack:o.h=1→n.t=1→Took o n { o with h:=2 }
 |ends:(o.h=1∧n.t=2)∨(o.h=2∧n.t=4)→Took o n (done o)
 |fill:o.h=2→n.t=3→1≤n.q→n.q < o.q - o.f→Took o n { o with f:=o.f+n.q }
 |full:o.h=2→n.t=3→n.q=o.q - o.f→Took o n (done { o with f:=o.f+n.q })
 |off:o.h=2→0 < o.m→n.t=6→Took o n { o with m:=0,r:=0 }
 |new:o.h=2→0 < o.m→n.t=5→n.q=o.m→n.p=o.r→o.f < o.m→Took o n { o with q:=o.m,p:=o.r,m:=0,r:=0 }
theorem take_err {o:Or} {n:Nt} {p:Or} {e:Int} (h:take o n=(p,e)):e=0∨(p=o∧(e=1∨e=8)):=by
 unfold take at h
 repeat' split at h
 all_goals simp only [Prod.mk.injEq] at h;obtain ⟨rfl,rfl⟩:=h;simp
theorem take_ok {o:Or} {n:Nt} {p:Or} (h:take o n=(p,0)):Rightly o∧noteOk n=true∧n.o=o.i∧Took o n p:=by
 unfold take at h
 split at h
 ·simp at h
 rename_i h0
 have h1:right o=true∧noteOk n=true∧n.o=o.i:=by
  cases hr:right o<;>cases hn:noteOk n<;>simp [hr,hn] at h0 ⊢
  exact h0
 refine ⟨right_iff.1 h1.1,h1.2.1,h1.2.2,?_⟩
 have hn:=noteOk_iff.1 h1.2.1
 split at h
 ·rename_i hc;simp only [Prod.mk.injEq,and_true] at h;subst h;exact .ack hc.1 hc.2
 split at h
 ·rename_i hc;simp only [Prod.mk.injEq,and_true] at h;subst h;exact .ends hc
 split at h
 ·rename_i hc
  have h3:=hn.2.2
  rw [hc.2.1] at h3
  have h4:=tell_fill h3
  simp only [Prod.mk.injEq,and_true] at h
  split at h
  ·rename_i hd;subst h;exact .fill hc.1 hc.2.1 h4.1 hd
  ·rename_i hd;subst h;exact .full hc.1 hc.2.1 (by omega)
 split at h
 ·rename_i hc;simp only [Prod.mk.injEq,and_true] at h;subst h;exact .off hc.1 hc.2.1 hc.2.2
 split at h
 ·rename_i hc
  obtain ⟨c1,c2,c3,c4,c5,c6⟩:=hc
  simp only [Prod.mk.injEq,and_true] at h
  subst h
  rw [c4,c5]
  exact .new c1 c2 c3 c4 c5 (by omega)
 ·simp at h
theorem took_right {o:Or} {n:Nt} {p:Or} (hr:Rightly o) (h:Took o n p):Rightly p:=by
 obtain ⟨i,a,y,d,q,pr,f,ph,m,r,v,g⟩:=o
 unfold Rightly at hr ⊢
 cases h<;>simp only [done,true_and,and_true,true_or,or_true] at *<;>omega
theorem took_same {o:Or} {n:Nt} {p:Or} (hr:Rightly o) (h:Took o n p):o.h≠3∧o.h≤p.h∧p.i=o.i∧p.a=o.a∧p.y=o.y∧p.d=o.d∧o.f≤p.f∧p.v=o.v∧p.g=o.g:=by
 obtain ⟨i,a,y,d,q,pr,f,ph,m,r,v,g⟩:=o
 unfold Rightly at hr
 cases h<;>simp only [done,true_and,and_true,true_or,or_true] at *<;>omega
theorem took_open {o:Or} {n:Nt} {p:Or} (hr:Rightly o) (h:Took o n p):open_ p≤open_ o:=by
 have hp:=took_right hr h
 unfold open_
 rw [right_iff.2 hr,right_iff.2 hp]
 obtain ⟨i,a,y,d,q,pr,f,ph,m,r,v,g⟩:=o
 unfold Rightly at hr hp
 cases h<;>simp only [done,true_and,and_true,true_or,or_true] at *<;>simp<;>(repeat' split)<;>omega
theorem worth_done {o:Or} (hr:Rightly o) (hh:o.h=3):worth o=(0,0):=by
 unfold worth;rw [right_iff.2 hr,if_neg (by simp),if_pos hh]
theorem worth_ok {o:Or} {a:Int} (hr:Rightly o) (hh:o.h≠3):worth o=(a,0) ↔ fits ((o.q - o.f) * o.p)=true∧(o.f < o.m→fits ((o.m - o.f) * o.r)=true)∧a=if o.f < o.m∧(o.q - o.f) * o.p < (o.m - o.f) * o.r then (o.m - o.f) * o.r else (o.q - o.f) * o.p:=by
 unfold worth
 rw [right_iff.2 hr,if_neg (by simp),if_neg hh]
 generalize (o.q - o.f) * o.p=A
 generalize (o.m - o.f) * o.r=B
 cases hA:fits A
 ·simp
 ·by_cases hm:o.f < o.m
  ·cases hB:fits B
   ·simp [hm]
   ·by_cases hl:A < B<;>simp [hm,hl]<;>omega
  ·simp [hm];omega
theorem took_worth {o:Or} {n:Nt} {p:Or} {a:Int} (hr:Rightly o) (h:Took o n p) (hw:worth o=(a,0)):∃ b,worth p=(b,0)∧b≤a:=by
 have hp:=took_right hr h
 have hs:=took_same hr h
 obtain ⟨hA,hB,ha⟩:=(worth_ok hr hs.1).1 hw
 obtain ⟨i,a',y,d,q,pr,f,ph,m,r,v,g⟩:=o
 simp only at hA hB ha hs
 have hr':=hr
 unfold Rightly at hr'
 simp only at hr'
 have hA0:0≤(q - f) * pr:=mul_nn (by omega) (by omega)
 have hr0:0≤r:=by omega
 have hp0:0≤pr:=by omega
 have hBm:f < m→0≤(m - f) * r:=fun hh=>mul_nn (by omega) hr0
 have ha0:0≤a:=by rw [ha];split;exact hBm (by omega);exact hA0
 have haA:(q - f) * pr≤a:=by rw [ha];split<;>omega
 have haB:f < m→(m - f) * r≤a:=fun hh=>by rw [ha];split<;>omega
 cases h with
 |ack h1 h2 =>
  refine ⟨a,(worth_ok hp (by simp)).2 ⟨hA,hB,ha⟩,Int.le_refl _⟩
 |ends h1=>exact ⟨0,worth_done hp rfl,ha0⟩
 |full h1 h2 h3=>exact ⟨0,worth_done hp rfl,ha0⟩
 |fill h1 h2 h3 h4 =>
  simp only at h1 h4
  have e1:(q - (f+n.q)) * pr≤(q - f) * pr:=mul_le hp0 (by omega)
  have e2:0≤(q - (f+n.q)) * pr:=mul_nn (by omega) hp0
  have e3:(m - (f+n.q)) * r≤(m - f) * r:=mul_le hr0 (by omega)
  have e4:f+n.q < m→0≤(m - (f+n.q)) * r:=fun hh=>mul_nn (by omega) hr0
  refine ⟨_,(worth_ok hp (by simp;omega)).2 ⟨fits_less e2 e1 hA,fun hh=>fits_less (e4 hh) e3 (hB (by simp only at hh;omega)),rfl⟩,?_⟩
  simp only
  split
  ·have:=haB (by omega);omega
  ·omega
 |off h1 h2 h3 =>
  simp only at h1
  refine ⟨_,(worth_ok hp (by simp;omega)).2 ⟨hA,fun hh=>by simp only at hh;omega,rfl⟩,?_⟩
  simp only
  rw [if_neg (by omega)]
  exact haA
 |new h1 h2 h3 h4 h5 h6 =>
  simp only at h1 h6
  refine ⟨_,(worth_ok hp (by simp;omega)).2 ⟨hB h6,fun hh=>by simp only at hh;omega,rfl⟩,?_⟩
  simp only
  rw [if_neg (by omega)]
  exact haB h6
theorem id_in {o:Or} (hr:Rightly o):1≤o.i∧o.i≤1000000000000:=⟨hr.1.1,hr.1.2.1⟩
theorem change_err {o:Or} {x z:Int} {p:Or} {e:Int} (h:change o x z=(p,e)):e=0∨p=o∧(e=1∨e=8):=by
 unfold change at h
 repeat' split at h
 all_goals simp only [Prod.mk.injEq] at h;obtain ⟨rfl,rfl⟩:=h;simp
theorem change_ok {o:Or} {x z:Int} {p:Or} (h:change o x z=(p,0)):Rightly o∧1≤x∧1≤z∧o.v≠9223372036854775807∧o.h=2∧o.m=0∧o.r=0∧o.g=false∧p = { o with m:=x,r:=z,v:=o.v+1 }:=by
 unfold change at h
 split at h
 ·simp at h
 rename_i h1
 split at h
 ·simp at h
 rename_i h2
 simp only [Prod.mk.injEq,and_true] at h
 have hr:right o=true:=by cases hr:right o<;>simp [hr] at h1 ⊢
 have hg:o.g=false:=by cases hg:o.g<;>simp [hg] at h2 ⊢
 have hR:=right_iff.1 hr
 simp only [not_or,Int.not_lt] at h1 h2
 have hR':=hR
 unfold Rightly at hR'
 exact ⟨hR,h1.2.1,h1.2.2.1,h1.2.2.2,by omega,by omega,by omega,hg,h.symm⟩
theorem change_right {o:Or} {x z:Int} {p:Or} (h:change o x z=(p,0)):Rightly p:=by
 obtain ⟨hr,hx,hz,hv,hh,hm,hr0,hg,rfl⟩:=change_ok h
 unfold Rightly at hr ⊢
 simp only
 omega
theorem begin_right {r:Rc} {o:Or} (h:begin_ r=(o,0)):r.k=1∧rec.right r=true∧Rightly o∧o=⟨r.o,r.a,r.y,r.d,r.q,r.p,0,1,0,0,0,false⟩:=by
 unfold begin_ at h
 split at h
 ·rename_i hc
  simp only [Prod.mk.injEq,and_true] at h
  refine ⟨hc.1,hc.2,?_,h.symm⟩
  subst h
  have hm:=hc.2
  unfold rec.right rec.may at hm
  rw [Bool.and_eq_true,if_pos hc.1] at hm
  have hm:=hm.1
  simp [mayOrder,mayAcc,mayAsk] at hm
  unfold Rightly
  simp only [true_and,and_true,true_or,or_true]
  omega
 ·simp at h
theorem begin_fine {r:Rc} (hr:r.fine):(begin_ r).1.fine:=by
 unfold begin_
 obtain ⟨h1,h2,h3,h4,h5,h6,h7,h8,h9,h10,h11,h12⟩:=hr
 split
 ·exact ⟨h2,h3,h4,h5,h6,h7,rec.in0,rec.in1,rec.in0,rec.in0,rec.in0⟩
 ·simp [oz,Or.fine,rec.in0]
theorem took_fine {o:Or} {n:Nt} {p:Or} (hr:Rightly o) (hf:o.fine) (h:Took o n p):p.fine:=by
 have h3:inR 3:=by simp [inR]
 have h2:inR 2:=by simp [inR]
 obtain ⟨i,a,y,d,q,pr,f,ph,m,r,v,g⟩:=o
 obtain ⟨f1,f2,f3,f4,f5,f6,f7,f8,f9,f10,f11⟩:=hf
 simp only at f1 f2 f3 f4 f5 f6 f7 f8 f9 f10 f11
 unfold Rightly at hr
 simp only at hr
 cases h with
 |ack=>exact ⟨f1,f2,f3,f4,f5,f6,f7,h2,f9,f10,f11⟩
 |ends=>exact ⟨f1,f2,f3,f4,f5,f6,f7,h3,rec.in0,rec.in0,f11⟩
 |fill e1 e2 e3 e4=>simp only at e4;exact ⟨f1,f2,f3,f4,f5,f6,by simp only [inR] at *;omega,f8,f9,f10,f11⟩
 |full e1 e2 e3=>simp only at e3;exact ⟨f1,f2,f3,f4,f5,f6,by simp only [inR,done] at *;omega,h3,rec.in0,rec.in0,f11⟩
 |off=>exact ⟨f1,f2,f3,f4,f5,f6,f7,f8,rec.in0,rec.in0,f11⟩
 |new=>exact ⟨f1,f2,f3,f4,f9,f10,f7,f8,rec.in0,rec.in0,f11⟩
theorem take_fine {o:Or} {n:Nt} {p:Or} {e:Int} (hf:o.fine) (h:take o n=(p,e)):p.fine:=by
 rcases take_err h with rfl | ⟨rfl,_⟩
 ·obtain ⟨hr,_,_,ht⟩:=take_ok h
  exact took_fine hr hf ht
 ·exact hf
theorem change_fine {o:Or} {x z:Int} {p:Or} {e:Int} (hf:o.fine) (hx:inR x) (hz:inR z) (h:change o x z=(p,e)):p.fine:=by
 rcases change_err h with rfl | ⟨rfl,_⟩
 ·obtain ⟨hr,_,_,hv,_,_,_,_,rfl⟩:=change_ok h
  obtain ⟨f1,f2,f3,f4,f5,f6,f7,f8,f9,f10,f11⟩:=hf
  unfold Rightly at hr
  exact ⟨f1,f2,f3,f4,f5,f6,f7,f8,hx,hz,by simp only [inR] at *;omega⟩
 ·exact hf
theorem stop_fine {o:Or} {p:Or} {e:Int} (hf:o.fine) (h:stop o=(p,e)):p.fine:=by
 unfold stop at h
 repeat' split at h
 all_goals simp only [Prod.mk.injEq] at h;obtain ⟨rfl,rfl⟩:=h;exact hf
end Go.Proofs.YtalhdalinpdanabGreat.order
end
section
namespace Go.Proofs.YtalhdalinpdanabGreat.cell
set_option maxRecDepth 20000
open Go.Proofs.YtalhdalinpdanabGreat.frame (inR)
open Go.Proofs.YtalhdalinpdanabGreat.order (Or Nt open_ worth)
structure Ce where
 (p b s n:Int)
 deriving DecidableEq
structure Ex where
 (l s n:Int)
 deriving DecidableEq
def Ce.fine (c:Ce):Prop:=inR c.p∧inR c.b∧inR c.s∧inR c.n
def Ex.fine (x:Ex):Prop:=inR x.l∧inR x.s∧inR x.n
def Rightly (c:Ce):Prop := -9223372036854775808≤c.p+c.b∧c.p+c.b≤9223372036854775807 ∧ -9223372036854775808≤c.s - c.p∧c.s - c.p≤9223372036854775807∧0≤c.b∧0≤c.s∧0≤c.n
instance (c:Ce):Decidable (Rightly c):=by unfold Rightly;infer_instance
instance (c:Ce):Decidable c.fine:=by unfold Ce.fine inR;infer_instance
def right (c:Ce):Bool:=decide (Rightly c)
def of_ (c:Ce):Ex × Int:=if right c=true then (⟨c.p+c.b,c.s - c.p,c.n⟩,0) else (⟨0,0,0⟩,1)
def good (c d:Ce):Ce × Int:=if d.fine∧Rightly d then (d,0) else (c,3)
def turned (c:Ce) (d x w:Int):Ce:=if d=1 then ⟨c.p,c.b+x,c.s,c.n+w⟩ else ⟨c.p,c.b,c.s+x,c.n+w⟩
def come (c:Ce) (o:Or):Ce × Int :=
 if right c=false∨order.right o=false then (c,1) else if (worth o).2≠0 then (c,3) else good c (turned c o.d (open_ o) (worth o).1)
def go (c:Ce) (o:Or):Ce × Int :=
 if right c=false∨order.right o=false then (c,1) else if (worth o).2≠0 then (c,3) else good c (turned c o.d (-(open_ o)) (-(worth o).1))
def moved (c:Ce) (side qty:Int):Ce:=⟨if side=2 then c.p - qty else c.p+qty,c.b,c.s,c.n⟩
def did (c:Ce) (side qty:Int):Ce × Int :=
 if right c=false∨side < 1∨2 < side∨qty < 0 then (c,1) else good c (moved c side qty)
def covers (a b:Ex):Bool:=decide (b.l≤a.l∧b.s≤a.s∧b.n≤a.n)
theorem right_iff {c:Ce} : right c=true ↔ Rightly c:=by simp [right]
theorem right_no {c:Ce} : right c=false ↔ ¬ Rightly c:=by simp [right]
theorem covers_iff {a b:Ex} : covers a b=true ↔ b.l≤a.l∧b.s≤a.s∧b.n≤a.n:=by simp [covers]
theorem good_ok {c d e:Ce} : good c d=(e,0) ↔ e=d∧d.fine∧Rightly d:=by
 unfold good
 split
 ·rename_i h;simp [h];exact eq_comm
 ·rename_i h;simp;intro _ h1 h2;exact h ⟨h1,h2⟩
theorem good_cases (c d:Ce):(good c d=(d,0)∧d.fine∧Rightly d)∨(good c d=(c,3)∧¬ (d.fine∧Rightly d)):=by
 unfold good
 split
 ·rename_i h;exact .inl ⟨rfl,h⟩
 ·rename_i h;exact .inr ⟨rfl,h⟩
theorem come_cases (c:Ce) (o:Or):(come c o=(c,1)∧(right c=false∨order.right o=false))∨(come c o=(c,3))∨(come c o=(turned c o.d (open_ o) (worth o).1,0)∧Rightly c∧order.Rightly o∧(worth o).2=0∧(turned c o.d (open_ o) (worth o).1).fine∧Rightly (turned c o.d (open_ o) (worth o).1)):=by
 unfold come
 split
 ·rename_i h;exact .inl ⟨rfl,h⟩
 rename_i h
 simp only [not_or,Bool.not_eq_false] at h
 split
 ·exact .inr (.inl rfl)
 rename_i h2
 simp only [ne_eq,Decidable.not_not] at h2
 rcases good_cases c (turned c o.d (open_ o) (worth o).1) with ⟨e,h3⟩ | ⟨e,h3⟩
 ·exact .inr (.inr ⟨e,right_iff.1 h.1,order.right_iff.1 h.2,h2,h3.1,h3.2⟩)
 ·exact .inr (.inl e)
theorem come_ok {c d:Ce} {o:Or} (h:come c o=(d,0)):d=turned c o.d (open_ o) (worth o).1∧Rightly c∧order.Rightly o∧(worth o).2=0∧d.fine∧Rightly d:=by
 rcases come_cases c o with ⟨e,_⟩ | e | ⟨e,h1,h2,h3,h4,h5⟩
 ·rw [e] at h;simp at h
 ·rw [e] at h;simp at h
 ·rw [e] at h
  simp only [Prod.mk.injEq,and_true] at h
  subst h
  exact ⟨rfl,h1,h2,h3,h4,h5⟩
theorem good_fine {c d x:Ce} {e:Int} (hc:c.fine) (h:good c d=(x,e)):x.fine:=by
 rcases good_cases c d with ⟨k,h1,_⟩ | ⟨k,_⟩<;>rw [k] at h<;>simp only [Prod.mk.injEq] at h<;>obtain ⟨rfl,rfl⟩:=h
 ·exact h1
 ·exact hc
theorem come_fine {c d:Ce} {o:Or} {e:Int} (hc:c.fine) (h:come c o=(d,e)):d.fine:=by
 unfold come at h
 split at h
 ·simp only [Prod.mk.injEq] at h;obtain ⟨rfl,rfl⟩:=h;exact hc
 split at h
 ·simp only [Prod.mk.injEq] at h;obtain ⟨rfl,rfl⟩:=h;exact hc
 exact good_fine hc h
theorem go_fine {c d:Ce} {o:Or} {e:Int} (hc:c.fine) (h:go c o=(d,e)):d.fine:=by
 unfold go at h
 split at h
 ·simp only [Prod.mk.injEq] at h;obtain ⟨rfl,rfl⟩:=h;exact hc
 split at h
 ·simp only [Prod.mk.injEq] at h;obtain ⟨rfl,rfl⟩:=h;exact hc
 exact good_fine hc h
theorem did_fine {c d:Ce} {x y e:Int} (hc:c.fine) (h:did c x y=(d,e)):d.fine:=by
 unfold did at h
 split at h
 ·simp only [Prod.mk.injEq] at h;obtain ⟨rfl,rfl⟩:=h;exact hc
 exact good_fine hc h
theorem open_nn {o:Or} (h:order.Rightly o):0≤open_ o:=by
 unfold open_
 unfold order.Rightly at h
 split
 ·omega
 ·split<;>omega
theorem worth_nn {o:Or} (h:order.Rightly o):0≤(worth o).1:=by
 by_cases h3:o.h=3
 ·rw [order.worth_done h h3];decide
 unfold worth
 rw [order.right_iff.2 h,if_neg (by simp),if_neg h3]
 have h1:0≤(o.q - o.f) * o.p:=order.mul_nn (by unfold order.Rightly at h;omega) (by unfold order.Rightly at h;omega)
 split
 ·decide
 split
 ·rename_i hm
  have h2:0≤(o.m - o.f) * o.r:=order.mul_nn (by omega) (by unfold order.Rightly at h;omega)
  split
  ·decide
  split
  ·exact h2
  ·exact h1
 ·exact h1
theorem open_in {o:Or} (hf:o.fine):inR (open_ o):=by
 unfold open_
 cases hr:order.right o
 ·simp [inR]
 have h:=order.right_iff.1 hr
 unfold order.Rightly at h
 unfold order.Or.fine inR at hf
 unfold inR
 split
 ·omega
 ·split<;>omega
theorem worth_in (o:Or):inR (worth o).1:=by
 unfold worth
 split
 ·simp [inR]
 split
 ·simp [inR]
 split
 ·simp [inR]
 rename_i h1
 simp only [order.fits,Bool.not_eq_false,decide_eq_true_eq] at h1
 split
 ·split
  ·simp [inR]
  rename_i h2
  simp only [order.fits,Bool.not_eq_false,decide_eq_true_eq] at h2
  unfold inR
  split
  ·exact h2
  ·exact h1
 ·exact h1
theorem come_1 {c:Ce} {o:Or} (h:right c=false):come c o=(c,1):=by unfold come;simp [h]
end Go.Proofs.YtalhdalinpdanabGreat.cell
end
section
namespace Go.Proofs.YtalhdalinpdanabGreat.cell
set_option maxRecDepth 20000
end Go.Proofs.YtalhdalinpdanabGreat.cell
end
