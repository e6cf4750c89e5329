/-
  CrcMath, FrameMath, RecMath
-/
set_option linter.unusedVariables false
set_option linter.unusedSimpArgs false
section
namespace Go.Proofs.Ytcpahggkioagkaa.crc
set_option maxRecDepth 20000

/-- one place down. -/
def down (x:Nat):Nat:=if x % 2=1 then (x / 2) ^^^ 3988292384 else x / 2
def downs:Nat→Nat→Nat
  | 0,x=>x
  | k+1,x=>downs k (down x)
/-- a byte comes to it. -/
def byte (x b:Nat):Nat:=downs 8 (x ^^^ b)
def bytes (x:Nat) (l:List Nat):Nat:=l.foldl byte x
/-- what the sum would be,behind bytes of that sum. -/
def more (s:Nat) (l:List Nat):Nat:=bytes (s ^^^ 4294967295) l ^^^ 4294967295

/-- two texts turned together. -/
def turn (l m:List Nat):List Nat:=List.zipWith (· ^^^ ·) l m
end Go.Proofs.Ytcpahggkioagkaa.crc
end
section
namespace Go.Proofs.Ytcpahggkioagkaa.frame
set_option maxRecDepth 20000
open Go.Proofs.Ytcpahggkioagkaa.crc

/-- n in k bytes,the highest first (its lowest k). -/
def be:Nat→Nat→List Nat
  | 0,_=>[]
  | k+1,n=>n / 256 ^ k % 256 :: be k n
/-- what bytes have,the highest first. -/
def num (l:List Nat):Nat:=l.foldl (fun a c=>a * 256+c) 0
/-- a number as 64 bits,and what 64 bits are as a number. -/
def u (x:Int):Nat:=(x % 18446744073709551616).toNat
/-- a frame's numbers. -/
structure Fr where
  (e l k b0 b1 b2 b3 b4 b5:Int)
  deriving DecidableEq
def zero:Fr:=⟨0,0,0,0,0,0,0,0,0⟩
def inR (x:Int):Prop := -9223372036854775808≤x∧x≤9223372036854775807
def Fr.fine (f:Fr):Prop:=inR f.e∧inR f.l∧inR f.k∧inR f.b0∧inR f.b1∧inR f.b2∧inR f.b3∧inR f.b4∧inR f.b5
def right (f:Fr):Bool:=decide (1≤f.e∧f.e≤1000000∧1≤f.l∧f.l≤1000000000∧1≤f.k∧f.k≤6)
/-- what is ahead of the sum. -/
def data (f:Fr):List Nat:=be 4 72++(be 4 (u f.e)++(be 8 (u f.l)++(be 4 (u f.k)++(be 8 (u f.b0)++(be 8 (u f.b1)++(be 8 (u f.b2)++(be 8 (u f.b3)++(be 8 (u f.b4)++be 8 (u f.b5)))))))))
/-- four bytes,the lowest first. -/
def le4 (s:Nat):List Nat:=[s % 256,s / 256 % 256,s / 65536 % 256,s / 16777216 % 256]
def enc (f:Fr):List Nat:=data f++le4 (more 0 (data f))
end Go.Proofs.Ytcpahggkioagkaa.frame
end
section
namespace Go.Proofs.Ytcpahggkioagkaa.rec
set_option maxRecDepth 20000
open Go.Proofs.Ytcpahggkioagkaa.frame (inR)
structure Rc where
 (k o a y d q p l s n:Int) (on:Bool) (z t:Int)
 deriving DecidableEq
structure Ns where
 (b0 b1 b2 b3 b4 b5:Int)
 deriving DecidableEq
def Rc.fine (r:Rc):Prop:=inR r.k∧inR r.o∧inR r.a∧inR r.y∧inR r.d∧inR r.q∧inR r.p∧inR r.l∧inR r.s∧inR r.n∧inR r.z∧inR r.t
def Ns.fine (b:Ns):Prop:=inR b.b0∧inR b.b1∧inR b.b2∧inR b.b3∧inR b.b4∧inR b.b5
def nz:Ns:=⟨0,0,0,0,0,0⟩
def nums (r:Rc):Ns :=
 if r.k=1 then ⟨r.o,r.a,r.y,r.d,r.q,r.p⟩
 else if r.k=2 then ⟨r.o,r.q,r.p,0,0,0⟩
 else if r.k=3 then ⟨r.o,0,0,0,0,0⟩
 else if r.k=4 then ⟨r.a,r.y,r.l,r.s,r.n,0⟩
 else if r.k=5 then (if r.on=true then ⟨1,0,0,0,0,0⟩ else nz)
 else if r.k=6 then ⟨r.z,r.t,r.o,r.q,r.p,0⟩
 else nz
def rd (k:Int) (b:Ns):Rc :=
 if k=1 then ⟨k,b.b0,b.b1,b.b2,b.b3,b.b4,b.b5,0,0,0,false,0,0⟩
 else if k=2 then ⟨k,b.b0,0,0,0,b.b1,b.b2,0,0,0,false,0,0⟩
 else if k=3 then ⟨k,b.b0,0,0,0,0,0,0,0,0,false,0,0⟩
 else if k=4 then ⟨k,0,b.b0,b.b1,0,0,0,b.b2,b.b3,b.b4,false,0,0⟩
 else if k=5 then ⟨k,0,0,0,0,0,0,0,0,0,decide (b.b0=1),0,0⟩
 else if k=6 then ⟨k,b.b2,0,0,0,b.b3,b.b4,0,0,0,false,b.b0,b.b1⟩
 else ⟨k,0,0,0,0,0,0,0,0,0,false,0,0⟩
def mayOrder (o:Int):Bool:=decide (1≤o∧o≤1000000000000)
def mayAcc (a:Int):Bool:=decide (0≤a∧a < 8)
def mayAsk (q p:Int):Bool:=decide (1≤q∧1≤p)
def mayBound (y l s n:Int):Bool:=if y = -1 then decide (l=0∧s=0∧0≤n) else mayAcc y && decide (0≤l∧0≤s∧0≤n)
def mayTell (t q p:Int):Bool :=
 if t=3 then decide (1≤q∧p=0)
 else if t=5 then mayAsk q p
 else if t=1∨t=2∨t=4∨t=6 then decide (q=0∧p=0)
 else false
def may (r:Rc):Bool :=
 if r.k=1 then mayOrder r.o && mayAcc r.a && mayAcc r.y && decide (r.d=1∨r.d=2) && mayAsk r.q r.p
 else if r.k=2 then mayOrder r.o && mayAsk r.q r.p
 else if r.k=3 then mayOrder r.o
 else if r.k=4 then mayAcc r.a && mayBound r.y r.l r.s r.n
 else if r.k=5 then true
 else if r.k=6 then decide (1≤r.z∧r.z≤1000000000) && mayOrder r.o && mayTell r.t r.q r.p
 else false
def right (r:Rc):Bool:=may r && decide (rd r.k (nums r)=r)
theorem in0:inR 0:=by simp [inR]
theorem in1:inR 1:=by simp [inR]
theorem nums_fine {r:Rc} (h:r.fine):(nums r).fine:=by
 obtain ⟨h1,h2,h3,h4,h5,h6,h7,h8,h9,h10,h11,h12⟩:=h
 unfold nums
 repeat' split
 all_goals simp only [Ns.fine,nz,in0,in1, *,and_self]
theorem rd_fine {k:Int} {b:Ns} (hk:inR k) (h:b.fine):(rd k b).fine:=by
 obtain ⟨h1,h2,h3,h4,h5,h6⟩:=h
 unfold rd
 repeat' split
 all_goals refine ⟨hk,?_,?_,?_,?_,?_,?_,?_,?_,?_,?_,?_⟩<;>first | assumption | exact in0
def fr (r:Rc) (e l:Int):frame.Fr:=⟨e,l,r.k,(nums r).b0,(nums r).b1,(nums r).b2,(nums r).b3,(nums r).b4,(nums r).b5⟩
def want (r:Rc):Rc :=
 if r.k=1 then ⟨r.k,r.o,r.a,r.y,r.d,r.q,r.p,0,0,0,false,0,0⟩
 else if r.k=2 then ⟨r.k,r.o,0,0,0,r.q,r.p,0,0,0,false,0,0⟩
 else if r.k=3 then ⟨r.k,r.o,0,0,0,0,0,0,0,0,false,0,0⟩
 else if r.k=4 then ⟨r.k,0,r.a,r.y,0,0,0,r.l,r.s,r.n,false,0,0⟩
 else if r.k=5 then ⟨r.k,0,0,0,0,0,0,0,0,0,r.on,0,0⟩
 else if r.k=6 then ⟨r.k,r.o,0,0,0,if r.t=3∨r.t=5 then r.q else 0,if r.t=5 then r.p else 0,0,0,0,false,r.z,r.t⟩
 else ⟨r.k,0,0,0,0,0,0,0,0,0,false,0,0⟩
def okR (r:Rc):Bool :=
 if r.k=1 then decide (0 < r.o∧r.o≤1000000000000∧0≤r.a∧r.a < 8∧0≤r.y∧r.y < 8∧1≤r.d∧r.d≤2∧0 < r.q∧0 < r.p)
 else if r.k=2 then decide (0 < r.o∧r.o≤1000000000000∧0 < r.q∧0 < r.p)
 else if r.k=3 then decide (0 < r.o∧r.o≤1000000000000)
 else if r.k=4 then decide (0≤r.a∧r.a < 8 ∧ -1≤r.y∧r.y < 8∧0≤r.l∧0≤r.s∧0≤r.n∧¬ (r.y = -1∧(r.l≠0∨r.s≠0)))
 else if r.k=5 then true
 else if r.k=6 then decide (0 < r.z∧r.z≤1000000000∧1≤r.t∧r.t≤6∧0 < r.o∧r.o≤1000000000000∧(r.t=3∨r.t=5→0 < r.q)∧(r.t=5→0 < r.p))
 else false
theorem right_eq (r:Rc):(okR r && decide (r=want r))=right r:=by
 obtain ⟨k,o,a,y,d,q,p,l,s,n,on,z,t⟩:=r
 unfold right
 rw [Bool.eq_iff_iff]
 simp only [Bool.and_eq_true,decide_eq_true_eq]
 by_cases h1:k=1
 ·subst h1;cases on<;>simp [okR,want,may,rd,nums,mayOrder,mayAcc,mayAsk]<;>omega
 by_cases h2:k=2
 ·subst h2;cases on<;>simp [okR,want,may,rd,nums,mayOrder,mayAcc,mayAsk]<;>omega
 by_cases h3:k=3
 ·subst h3;cases on<;>simp [okR,want,may,rd,nums,mayOrder,mayAcc,mayAsk]<;>omega
 by_cases h4:k=4
 ·subst h4
  by_cases hy:y = -1
  ·subst hy;cases on<;>simp [okR,want,may,rd,nums,mayOrder,mayAcc,mayAsk,mayBound]<;>omega
  ·cases on<;>simp [okR,want,may,rd,nums,mayOrder,mayAcc,mayAsk,mayBound,hy]<;>omega
 by_cases h5:k=5
 ·subst h5
  cases on<;>simp [okR,want,may,rd,nums,nz]<;>omega
 by_cases h6:k=6
 ·subst h6
  by_cases t3:t=3
  ·subst t3;cases on<;>simp [okR,want,may,rd,nums,mayOrder,mayTell]<;>omega
  by_cases t5:t=5
  ·subst t5;cases on<;>simp [okR,want,may,rd,nums,mayOrder,mayTell,mayAsk]<;>omega
  ·cases on<;>simp [okR,want,may,rd,nums,mayOrder,mayTell,t3,t5]<;>omega
 ·simp [okR,may,h1,h2,h3,h4,h5,h6]
end Go.Proofs.Ytcpahggkioagkaa.rec
end
