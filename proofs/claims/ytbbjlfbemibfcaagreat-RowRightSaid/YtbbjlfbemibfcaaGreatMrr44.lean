/-
  z7n, z7o, ztk, ztl, ztm, z7p, RowK, z7q
-/
import Derived.Test.YtbbjlfbemibfcaaGreatMrr42
import Derived.Test.YtbbjlfbemibfcaaGreatMrr43
import Derived.Test.YtbbjlfbemibfcaaGreatMrr36
import Derived.Test.YtbbjlfbemibfcaaGreatMrr11
import Derived.Test.YtbbjlfbemibfcaaGreatMrr09
set_option linter.unusedVariables false
set_option linter.unusedSimpArgs false
section
namespace Go.Proofs.YtbbjlfbemibfcaaGreat.row
set_option maxRecDepth 20000
open Go.RowKit Go.Proofs.YtbbjlfbemibfcaaGreat
open Go.Proofs.YtbbjlfbemibfcaaGreat.frame (be zi Me u le4)
open Go.Proofs.YtbbjlfbemibfcaaGreat.book (St right Gz Jt Mk There)
open Go.Proofs.YtbbjlfbemibfcaaGreat.order (Or oz)
open Go.Proofs.YtbbjlfbemibfcaaGreat.cell (Ce Ex)
theorem qv6:∀ (k n a:Nat),(be k n).foldl (fun a b=>a * 256+b) a=a * 256 ^ k+n % 256 ^ k
 | 0,n,a=>by simp [be,Nat.mod_one]
 |k+1,n,a=>by
  rw [be,List.foldl_cons,qv6 k n,Nat.mod_pow_succ,Nat.pow_succ,Nat.add_mul,Nat.mul_assoc,Nat.mul_comm 256 (256 ^ k),Nat.mul_comm (n / 256 ^ k % 256) (256 ^ k)]
  omega
theorem Nu (k n:Nat):num (be k n)=n % 256 ^ k:=by
 unfold num;rw [qv6];omega
section
variable {X R T:List Nat} {p q k:Nat} {x:Int}
theorem Sl (hp:X.length=p):at_ (X++R) (p+q) k=at_ R q k:=by
 unfold at_
 rw [← List.drop_drop,← hp,List.drop_left]
theorem Y8 (n:Nat) (j:Nat) (h:j≤q):at_ (be j n++R) q k=at_ R (q - j) k:=by
 have:=Sl (X:=be j n) (R:=R) (q:=q - j) (k:=k) (zi j n)
 rwa [Nat.add_sub_cancel' h] at this
theorem Oh (h:frame.jh x):at_ (be 8 (u x)++R) 0 8=x:=by
 have e:((be 8 (u x)++R).drop 0).take 8=be 8 (u x):=by
  rw [List.drop_zero,List.take_left' (zi 8 _)]
 unfold at_
 rw [e,Nu,IntKind.wrap_i64]
 unfold frame.jh at h
 unfold u
 have e2:(256:Nat) ^ 8=18446744073709551616:=by decide
 rw [e2]
 omega
theorem Xy (h:0≤x∧x≤255):at_ (be 1 (u x)++R) 0 1=x:=by
 have e:((be 1 (u x)++R).drop 0).take 1=be 1 (u x):=by
  rw [List.drop_zero,List.take_left' (zi 1 _)]
 unfold at_
 rw [e,Nu,IntKind.wrap_i64]
 unfold u
 have e2:(256:Nat) ^ 1=256:=by decide
 rw [e2]
 omega
end
theorem qv7 (b:Bool):decide (flag b=1)=b:=by cases b<;>rfl
theorem qlm (b:Bool):0≤flag b∧flag b≤255:=by cases b<;>decide
theorem qqd (o:Or) (R:List Nat):xu o++R=be 8 (u o.i)++(be 1 (u o.a)++(be 1 (u o.y)++(be 1 (u o.d)++(be 1 (u o.h)++(be 8 (u o.q)++(be 8 (u o.p)++(be 8 (u o.f)++(be 8 (u o.m)++(be 8 (u o.r)++(be 8 (u o.v)++(be 1 (u (flag o.g))++R))))))))))):=by
 simp only [xu,jf,List.flatMap_cons,List.flatMap_nil,List.append_nil,List.append_assoc]
theorem q0o (x:Ex) (R:List Nat):Ie x++R=be 8 (u x.l)++(be 8 (u x.s)++(be 8 (u x.n)++R)):=by
 simp only [Ie,jf,List.flatMap_cons,List.flatMap_nil,List.append_nil,List.append_assoc]
def zef (o:Or):Prop:=(0≤o.a∧o.a≤255)∧(0≤o.y∧o.y≤255)∧(0≤o.d∧o.d≤255)∧(0≤o.h∧o.h≤255)
theorem q3d {o:Or} (hf:o.fine) (hl:zef o) (R:List Nat):Iq (xu o++R) 0=o:=by
 obtain ⟨i,a,y,d,q,p,f,h,m,r,v,g⟩:=o
 obtain ⟨f1,_,_,_,f5,f6,f7,_,f9,f10,f11⟩:=hf
 obtain ⟨l1,l2,l3,l4⟩:=hl
 have e8:∀ (n:Nat) (R:List Nat) (q k:Nat),8≤q→at_ (be 8 n++R) q k=at_ R (q - 8) k:=fun n R q k h=>Y8 n 8 h
 have e1:∀ (n:Nat) (R:List Nat) (q k:Nat),1≤q→at_ (be 1 n++R) q k=at_ R (q - 1) k:=fun n R q k h=>Y8 n 1 h
 rw [qqd]
 unfold Iq
 simp only [Nat.zero_add]
 congr 1
 ·exact Oh f1
 ·rw [e8 _ _ 8 _ (by decide)];exact Xy l1
 ·rw [e8 _ _ 9 _ (by decide),e1 _ _ _ _ (by decide)];exact Xy l2
 ·rw [e8 _ _ 10 _ (by decide),e1 _ _ _ _ (by decide),e1 _ _ _ _ (by decide)];exact Xy l3
 ·rw [e8 _ _ 12 _ (by decide),e1 _ _ _ _ (by decide),e1 _ _ _ _ (by decide),e1 _ _ _ _ (by decide),e1 _ _ _ _ (by decide)];exact Oh f5
 ·rw [e8 _ _ 20 _ (by decide),e1 _ _ _ _ (by decide),e1 _ _ _ _ (by decide),e1 _ _ _ _ (by decide),e1 _ _ _ _ (by decide),e8 _ _ _ _ (by decide)];exact Oh f6
 ·rw [e8 _ _ 28 _ (by decide),e1 _ _ _ _ (by decide),e1 _ _ _ _ (by decide),e1 _ _ _ _ (by decide),e1 _ _ _ _ (by decide),e8 _ _ _ _ (by decide),e8 _ _ _ _ (by decide)];exact Oh f7
 ·rw [e8 _ _ 11 _ (by decide),e1 _ _ _ _ (by decide),e1 _ _ _ _ (by decide),e1 _ _ _ _ (by decide)];exact Xy l4
 ·rw [e8 _ _ 36 _ (by decide),e1 _ _ _ _ (by decide),e1 _ _ _ _ (by decide),e1 _ _ _ _ (by decide),e1 _ _ _ _ (by decide),e8 _ _ _ _ (by decide),e8 _ _ _ _ (by decide),e8 _ _ _ _ (by decide)];exact Oh f9
 ·rw [e8 _ _ 44 _ (by decide),e1 _ _ _ _ (by decide),e1 _ _ _ _ (by decide),e1 _ _ _ _ (by decide),e1 _ _ _ _ (by decide),e8 _ _ _ _ (by decide),e8 _ _ _ _ (by decide),e8 _ _ _ _ (by decide),e8 _ _ _ _ (by decide)];exact Oh f10
 ·rw [e8 _ _ 52 _ (by decide),e1 _ _ _ _ (by decide),e1 _ _ _ _ (by decide),e1 _ _ _ _ (by decide),e1 _ _ _ _ (by decide),e8 _ _ _ _ (by decide),e8 _ _ _ _ (by decide),e8 _ _ _ _ (by decide),e8 _ _ _ _ (by decide),e8 _ _ _ _ (by decide)];exact Oh f11
 ·rw [e8 _ _ 60 _ (by decide),e1 _ _ _ _ (by decide),e1 _ _ _ _ (by decide),e1 _ _ _ _ (by decide),e1 _ _ _ _ (by decide),e8 _ _ _ _ (by decide),e8 _ _ _ _ (by decide),e8 _ _ _ _ (by decide),e8 _ _ _ _ (by decide),e8 _ _ _ _ (by decide),e8 _ _ _ _ (by decide)]
  show decide (at_ (be 1 (u (flag g))++R) 0 1=1)=g
  rw [Xy (qlm g)];exact qv7 g
theorem q0p {X R:List Nat} {p:Nat} (hp:X.length=p):Iq (X++R) p=Iq R 0:=by
 have e0:=Sl (X:=X) (R:=R) (q:=0) (k:=8) hp
 rw [Nat.add_zero] at e0
 unfold Iq
 rw [e0]
 simp only [Sl hp,Nat.zero_add]
theorem qjc {α:Type} {f:α→List Nat} {k:Nat} (hk:∀ x,(f x).length=k):∀ {l:List α} {i:Nat} {x:α},l[i]?=some x→∀ (X R:List Nat),∃ X' R',X++(l.flatMap f++R)=X'++(f x++R')∧X'.length=X.length+k * i
 | [],i,x,h,X,R=>by simp at h
 |y :: l,0,x,h,X,R=>by
  simp at h;subst h
  exact ⟨X,l.flatMap f++R,by simp,by simp⟩
 |y :: l,i+1,x,h,X,R=>by
  rw [List.getElem?_cons_succ] at h
  obtain ⟨X',R',e1,e2⟩:=qjc hk h (X++f y) R
  refine ⟨X',R',?_,?_⟩
  ·rw [← e1];simp
  ·rw [e2,List.length_append,hk,Nat.mul_add];omega
theorem qj7 {α:Type} {g:Nat→α} {l:List α} (h:∀ i x,l[i]?=some x→g i=x):(List.range l.length).map g=l:=by
 apply List.ext_getElem?
 intro i
 rw [List.getElem?_map]
 rcases Nat.lt_or_ge i l.length with hi | hi
 ·rw [List.getElem?_range hi,List.getElem?_eq_getElem hi]
  exact congrArg some (h i _ (List.getElem?_eq_getElem hi))
 ·rw [List.getElem?_eq_none (by simpa using hi),List.getElem?_eq_none hi];rfl
section
variable {s:St}
theorem qt1 (hL:book.Lens s) (hH:Gz s) (e:Jt s):∀ j,j≤s.os.length→D9 { s with cs:=Mk s 0 } j=Mk s j
 | 0,_=>rfl
 |j+1,hj=>by
  have hj' : j < s.os.length:=hj
  rw [qll (s:={ s with cs:=Mk s 0 }) (j:=j) hj',qt1 hL hH e j (by omega)]
  have ho:=hH.1 _ (l7 (xs:=s.os) (z:=order.oz) hj')
  have ht:There { s with cs:=Mk s 0 } (s.os.getD j order.oz).a (s.os.getD j order.oz).y:=⟨ho.1.1.2.2.1,ho.2.2.1,ho.1.1.2.2.2.2.1,ho.2.2.2.1⟩
  unfold U2
  rw [if_pos ht]
  exact book.qp3 hL hH hj' (book.qrd hL hH e hj')
structure Whole (s:St):Prop where
 f:book.xk s
 x:∀ x ∈ s.ls,x.fine
 p:∀ x ∈ s.ps,frame.jh x
theorem qm9 (s:St) (R:List Nat):t2 s++R=[115,110,97,102]++(be 1 (u s.a)++(be 1 (u s.y)++(be 1 (u (flag s.k))++(be 1 (u (s.os.length:Int))++(be 8 (u s.last)++(be 8 (u s.seq)++(be 8 (u s.ng)++R))))))):=by
 simp only [t2,t1,jf,List.flatMap_cons,List.flatMap_nil,List.append_nil,List.append_assoc]
theorem Sm (s:St):told s=t2 s++(s.os.flatMap xu++(s.cs.flatMap Fv++(s.ls.flatMap Ie++jf 8 s.ps))):=by
 simp only [told,List.append_assoc]
theorem q9b {o:Or} (h:order.aj o):zef o:=by
 obtain ⟨⟨_,_,a1,a2,y1,y2,d1,d2,_⟩,_,_,_,_,h5⟩:=h
 refine ⟨⟨a1,by omega⟩,⟨y1,by omega⟩,⟨by omega,by omega⟩,?_⟩
 rcases h5 with h5 | h5 | h5<;>omega
theorem qt2 (hs:book.aj s) (hw:Whole s):Bd (told s) s.a.toNat s.y.toNat s.os.length s.cs.length = { s with cs:=Mk s 0 }:=by
 obtain ⟨z1,z2,z3,hH,hS,z4⟩:=book.lq hs
 have hr:=uj (book.dh.2 hs)
 have hl:=hs.2.2.1
 have ha:=hr.a;have hy:=hr.y;have ho:=hr.o
 have e8:∀ (n:Nat) (R:List Nat) (q k:Nat),8≤q→at_ (be 8 n++R) q k=at_ R (q - 8) k:=fun n R q k h=>Y8 n 8 h
 have e1:∀ (n:Nat) (R:List Nat) (q k:Nat),1≤q→at_ (be 1 n++R) q k=at_ R (q - 1) k:=fun n R q k h=>Y8 n 1 h
 have e4:∀ (R:List Nat) (q k:Nat),at_ ([115,110,97,102]++R) (4+q) k=at_ R q k:=fun R q k=>Sl rfl
 have hos:gy (told s) s.os.length=s.os:=qj7 fun i o hi=>by
  obtain ⟨X',R',e,hX⟩:=qjc (f:=xu) (k:=61) (fun o=>by simp only [xu,List.length_append,qc1,List.length_cons,List.length_nil]) hi (t2 s) (s.cs.flatMap Fv++(s.ls.flatMap Ie++jf 8 s.ps))
  rw [Sm,e]
  rw [Xk] at hX
  have hm:=List.mem_of_getElem? hi
  rw [q0p hX]
  exact q3d (hw.f.o o hm) (q9b (hH.1 o hm).1) _
 have hcs:qw (told s) s.os.length s.cs.length=Mk s 0:=by
  have hk:qw (told s) s.os.length s.cs.length=s.cs.map fun c=>(⟨c.p,0,0,0⟩:Ce):=by
   have:=qj7 (g:=fun i=>Gi (told s) (32+61 * s.os.length+8 * i)) (l:=s.cs.map fun c=>(⟨c.p,0,0,0⟩:Ce)) (fun i c hi=>by
    rw [List.getElem?_map,Option.map_eq_some_iff] at hi
    obtain ⟨c',hi,rfl⟩:=hi
    obtain ⟨X',R',e,hX⟩:=qjc (f:=Fv) (k:=8) (fun o=>by simp only [Fv,qc1,List.length_cons,List.length_nil]) hi (t2 s++s.os.flatMap xu) (s.ls.flatMap Ie++jf 8 s.ps)
    rw [List.length_append,Xk,qhv] at hX
    have hm:=List.mem_of_getElem? hi
    show Gi (told s) _=_
    rw [Sm,← List.append_assoc,e]
    unfold Gi
    have es:=Sl (X:=X') (R:=Fv c'++R') (q:=0) (k:=8) hX
    rw [Nat.add_zero] at es
    rw [es]
    have eb:Fv c'=be 8 (u c'.p):=by simp [Fv,jf]
    rw [eb,Oh (hw.f.c c' hm).1])
   rw [List.length_map] at this
   exact this
  rw [hk]
  apply List.ext_getElem?
  intro i
  rw [List.getElem?_map]
  rcases Nat.lt_or_ge i s.cs.length with hi | hi
  ·rw [book.qm4 0 hi,List.getElem?_eq_getElem hi]
   unfold book.part book.cellAt
   simp [book.sum,List.getD_eq_getElem?_getD,List.getElem?_eq_getElem hi]
  ·rw [List.getElem?_eq_none hi,List.getElem?_eq_none (by rw [book.Ll];exact hi)];rfl
 have hec:s.ls.length=s.cs.length:=by have:=hr.c.1;have:=hr.l.1;omega
 have hls:exs (told s) s.os.length s.cs.length s.cs.length=s.ls:=by
  rw [show exs (told s) s.os.length s.cs.length s.cs.length=exs (told s) s.os.length s.cs.length s.ls.length by rw [hec]]
  exact qj7 fun i x hi=>by
   obtain ⟨X',R',e,hX⟩:=qjc (f:=Ie) (k:=24) (fun o=>by simp only [Ie,qc1,List.length_cons,List.length_nil]) hi (t2 s++s.os.flatMap xu++s.cs.flatMap Fv) (jf 8 s.ps)
   rw [List.length_append,List.length_append,Xk,qhv,qmt] at hX
   have hm:=List.mem_of_getElem? hi
   have hf:=hw.x x hm
   rw [Sm,← List.append_assoc,← List.append_assoc,e]
   unfold Jy
   have es:=Sl (X:=X') (R:=Ie x++R') (q:=0) (k:=8) hX
   rw [Nat.add_zero] at es
   rw [es,Sl hX,Sl hX,q0o,Oh hf.1,e8 _ _ 8 _ (by decide),Oh hf.2.1,e8 _ _ 16 _ (by decide),e8 _ _ _ _ (by decide),Oh hf.2.2]
 have hps:caps (told s) s.os.length s.cs.length s.a.toNat=s.ps:=by
  rw [show s.a.toNat=s.ps.length by have:=hr.p;omega]
  exact qj7 fun i x hi=>by
   obtain ⟨X',R',e,hX⟩:=qjc (f:=fun n:Int=>be 8 (u n)) (k:=8) (fun o=>zi 8 _) hi (t2 s++s.os.flatMap xu++s.cs.flatMap Fv++s.ls.flatMap Ie) []
   rw [List.append_nil] at e
   rw [List.length_append,List.length_append,List.length_append,Xk,qhv,qmt,qu9] at hX
   have hm:=List.mem_of_getElem? hi
   have et:told s=X'++(be 8 (u x)++R'):=by rw [← e];rfl
   have es:=Sl (X:=X') (R:=be 8 (u x)++R') (q:=0) (k:=8) (p:=32+61 * s.os.length+32 * s.cs.length+8 * i) (by omega)
   rw [Nat.add_zero] at es
   rw [et,es,Oh (hw.p x hm)]
 have hn:=hw.f.n
 have hk6:decide (at_ (told s) 6 1=1)=s.k:=by
  rw [Sm,qm9,e4 _ 2 1,e1 _ _ 2 _ (by decide),e1 _ _ _ _ (by decide)]
  show decide (at_ (be 1 (u (flag s.k))++_) 0 1=1)=s.k
  rw [Xy (qlm _)];exact qv7 _
 have h8:at_ (told s) 8 8=s.last:=by
  rw [Sm,qm9,e4 _ 4 8,e1 _ _ 4 _ (by decide),e1 _ _ _ _ (by decide),e1 _ _ _ _ (by decide),e1 _ _ _ _ (by decide)]
  exact Oh hn.2.2.1
 have h16:at_ (told s) 16 8=s.seq:=by
  rw [Sm,qm9,e4 _ 12 8,e1 _ _ 12 _ (by decide),e1 _ _ _ _ (by decide),e1 _ _ _ _ (by decide),e1 _ _ _ _ (by decide),e8 _ _ _ _ (by decide)]
  exact Oh hn.2.2.2.1
 have Jm:at_ (told s) 24 8=s.ng:=by
  rw [Sm,qm9,e4 _ 20 8,e1 _ _ 20 _ (by decide),e1 _ _ _ _ (by decide),e1 _ _ _ _ (by decide),e1 _ _ _ _ (by decide),e8 _ _ _ _ (by decide),e8 _ _ _ _ (by decide)]
  exact Oh hn.2.2.2.2
 unfold Bd S0
 rw [hos,hcs,hls,hps,hk6,h8,h16,Jm,Int.toNat_of_nonneg (by omega),Int.toNat_of_nonneg (by omega)]
end
end Go.Proofs.YtbbjlfbemibfcaaGreat.row
end
section
namespace Go.Proofs.YtbbjlfbemibfcaaGreat.row
set_option maxRecDepth 20000
open Go.RowKit Go.Proofs.YtbbjlfbemibfcaaGreat
open Go.Proofs.YtbbjlfbemibfcaaGreat.frame (be zi Me u le4)
open Go.Proofs.YtbbjlfbemibfcaaGreat.book (St right Gz Jt Mk There)
open Go.Proofs.YtbbjlfbemibfcaaGreat.order (Or oz)
open Go.Proofs.YtbbjlfbemibfcaaGreat.cell (Ce Ex)
section
variable {s:St}
theorem qmm (s:St):txt (whole s)=told s:=by
 have e:(whole s).length - 4=(told s).length:=by simp [whole,le4]
 unfold txt;rw [e];unfold whole;exact List.take_left
theorem q3e (s:St):sm (whole s)=le4 (crc.more 0 (told s)):=by
 have e:(whole s).length - 4=(told s).length:=by simp [whole,le4]
 unfold sm;rw [e];unfold whole;exact List.drop_left
theorem q0q (hs:book.aj s) (hw:Whole s):Di (told s) s.a.toNat s.y.toNat s.os.length s.cs.length=s:=by
 obtain ⟨z1,z2,z3,hH,hS,z4⟩:=book.lq hs
 have hL:=book.Lens.of hs
 unfold Di
 rw [qt2 hs hw,qt1 hL hH hS _ (Nat.le_refl _),book.qta (Nat.le_refl _),hS.2.2]
theorem q60 (s:St):∃ l,whole s=115 :: 110 :: 97 :: 102 :: (u s.a % 256) :: (u s.y % 256) :: (u (flag s.k) % 256) :: (u (s.os.length:Int) % 256) :: l :=
 ⟨jf 8 [s.last,s.seq,s.ng]++(s.os.flatMap xu++(s.cs.flatMap Fv++(s.ls.flatMap Ie++(jf 8 s.ps++le4 (crc.more 0 (told s)))))),by
  have e:jf 1 [s.a,s.y,flag s.k,(s.os.length:Int)]=[u s.a % 256,u s.y % 256,u (flag s.k) % 256,u (s.os.length:Int) % 256]:=by simp [jf,be]
  unfold whole
  generalize le4 (crc.more 0 (told s))=z
  unfold told t2 t1
  rw [e]
  simp [List.append_assoc]⟩
theorem heads (hr:Lens s):(whole s).getD 4 0=s.a.toNat∧(whole s).getD 5 0=s.y.toNat∧(whole s).getD 7 0=s.os.length∧(whole s).take 4=[115,110,97,102]:=by
 obtain ⟨l,e⟩:=q60 s
 have h1:=hr.a;have h2:=hr.y;have h3:=hr.o
 rw [e]
 refine ⟨?_,?_,?_,rfl⟩
 ·show u s.a % 256=s.a.toNat
  unfold u;omega
 ·show u s.y % 256=s.y.toNat
  unfold u;omega
 ·show u (s.os.length:Int) % 256=s.os.length
  unfold u;omega
theorem qpk (hr:Lens s):(whole s).length=Ig s:=by
 have:=qjm hr
 simp [whole,le4];omega
theorem quv (hr:Lens s):Ey (whole s):=by
 obtain ⟨h4,h5,h7,ht⟩:=heads hr
 have h1:=hr.a;have h2:=hr.y;have h3:=hr.o
 unfold Ey
 rw [h4,h5,h7,qpk hr]
 exact ⟨(Yu hr).1,ht,by omega,by omega,by omega,by omega,h3,rfl⟩
theorem q61 (hr:Lens s):s.a.toNat * s.y.toNat=s.cs.length:=by
 have h1:((s.a.toNat * s.y.toNat:Nat):Int)=s.a * s.y:=by
  rw [Int.natCast_mul,Int.toNat_of_nonneg (by have:=hr.a;omega),Int.toNat_of_nonneg (by have:=hr.y;omega)]
 have:=hr.c.1
 omega
theorem q3f (h:right s=true) (hw:Whole s):ig (whole s)=(s,0):=by
 have hr:=uj h
 have hs:=book.dh.1 h
 obtain ⟨h4,h5,h7,ht⟩:=heads hr
 have e:yj (whole s)=s:=by
  unfold yj
  rw [qmm,h4,h5,h7,q61 hr]
  exact q0q hs hw
 have:=qqa (L:=whole s) (quv hr) (by rw [q3e,qmm]) (by rw [e];exact h) (by rw [e,qmm])
 rw [e] at this
 exact this
theorem La {w:World} {v:Sv} {S:Nat→Prop} (h:lu w S v s):Whole s:=⟨book.qto h,Un h.l,q13 h.k⟩
end
theorem q0r {α:Type} {R:Rd α} {size lo:Nat} {w:World} {e:TypeId} {S:Nat→Prop} {A:Option Addr} {n c:Nat} {xs:List α} (h:um R size w 0 e S A n c xs) (hy:∀ k,(Value.slice A n c).ownBlock=some k→lo≤k):um R size w lo e S A n c xs:=by
 obtain ⟨css,⟨h1,h2⟩,hE,hl⟩:=h
 refine ⟨css,⟨h1,?_⟩,hE,hl⟩
 rcases h2 with h2 | ⟨g,cap,cur,hv,_,h3⟩
 ·exact .inl h2
 ·exact .inr ⟨g,cap,cur,hv,hy g (by rw [hv];rfl),h3⟩
theorem qj8 {α:Type} {R:Rd α} (hR:qc2 R) {size lo:Nat} (hz:0 < size) {w:World} {e:TypeId} {A:Option Addr} {n c:Nat} {xs:List α} (h:um R size w 0 e (fun _=>False) A n c xs) (hy:∀ k,(ah R size e A n c xs).S k→lo≤k):ql R size w (fun k=>lo≤k∧k < w.heap.size) A xs :=
 (q0r h hy).elems hR hz (fun _ h=>h.elim) (fun _ h1 h2=>⟨h1,h2⟩)
theorem q0s {w:World} {v:Sv} {s:St} {lo:Nat} (h:xq (fun _=>False) lo (qbv v s) w) (hf:frame.jh s.a∧frame.jh s.y∧frame.jh s.last∧frame.jh s.seq∧frame.jh s.ng):lu w (fun k=>lo≤k∧k < w.heap.size) v s:=by
 obtain ⟨h1,h2,h3,h4,_⟩:=h.all
 have y:=fun f hf k hk=>(h.ni f hf k hk).1.resolve_left id
 simp only [qbv] at y
 exact ⟨qj8 E9 (by decide) h1 (y _ (by simp)),qj8 zn (by decide) h2 (y _ (by simp)),qj8 Fq (by decide) h3 (y _ (by simp)),qj8 (pz _) (by decide) h4 (y _ (by simp)),
  by have:=um.len h1;exact um.cap h1,um.cap h2,um.cap h3,um.cap h4,hf⟩
theorem Hy (L:List Nat):frame.jh (ig L).1.a∧frame.jh (ig L).1.y∧frame.jh (ig L).1.last∧frame.jh (ig L).1.seq∧frame.jh (ig L).1.ng:=by
 have hz:frame.jh uo.a∧frame.jh uo.y∧frame.jh uo.last∧frame.jh uo.seq∧frame.jh uo.ng:=⟨Xt,Xt,Xt,Xt,Xt⟩
 unfold ig
 split
 ·rename_i hm
  split
  ·split
   ·exact G8 hm
   ·exact hz
  ·exact hz
 ·exact hz
section
variable {w0 W:World} {D:List Fact} {S:Nat→Prop} {A:Option Addr} {c:Nat} {L:List Nat}
theorem qt3 (w:World) (hx:ql (bf .u8) 1 w (Lt w.heap.size) A (ak L)) (hc:L.length≤c) (hl:L.length≤9223372036854775807) :
  Calls Tryz.prog 14 #[.slice A (ak L).length c] w fun e w' => ∃ x:Sv,e = .returned (.tuple #[.agg (bg x (ig L).1),.int .i64 (ig L).2])∧Below w.heap.size w w'∧xq (fun _=>False) w.heap.size (qbv x (ig L).1) w':=by
 by_cases hm:Ey L
 ·have h0:0 < (ak L).length:=by rw [iy];have:=hm.1;omega
  obtain ⟨b,off,e,_⟩:=hx h0
  subst e
  exact qoh L b off c w hx hc hl
 ·exact qkd L A c w hx hc hl hm
theorem qt4 {s:St} {r:Int} (hd:Uf w0 D S W) (hx:∀ w,Below w0.heap.size w0 w→All D w→ql (bf .u8) 1 w (Lt w.heap.size) A (ak L)∧L.length≤c∧L.length≤9223372036854775807) (hv:ig L=(s,r)) :
  qg Tryz.prog w0 D 14 #[.slice A (ak L).length c] (Dat (fun w S v=>lu w S v s) S W) (fun x=>.tuple #[.agg (bg x.1.2.2 s),.int .i64 r]) (fun x=>[C9 x.1.1 x.1.2.1]) :=
 qjx (R:=fun w S v=>lu w S v s) (r:=fun b=>.tuple #[.agg (bg b s),.int .i64 r]) hd (fun w hw ha=>by
  obtain ⟨h1,h2,h3⟩:=hx w hw ha
  have h:=qt3 w h1 h2 h3
  have hf:=Hy L
  rw [hv] at h hf
  refine h.mono ?_
  rintro e w' ⟨x,rfl,hb,hn⟩
  exact ⟨x,rfl,hb,(q0s hn hf).keep (alike_refl _ _) (fun _ h=>.inr h)⟩)
theorem Nw {v u:Sv} {s t:St} {b:Bool} (hs:∀ w,Below w0.heap.size w0 w→All D w→lu w (Lt w.heap.size) v s) (ht:∀ w,Below w0.heap.size w0 w→All D w→lu w (Lt w.heap.size) u t) (hb:decide (s=t)=b):iq Tryz.prog w0 D 17 #[.agg (bg v s),.agg (bg u t)] (.bool b):=fun w hw ha=>by
 have h:=qt0 v s u t w (hs w hw ha) (ht w hw ha)
 rw [hb] at h
 exact h
end
end Go.Proofs.YtbbjlfbemibfcaaGreat.row
end
section
namespace Go.Proofs.YtbbjlfbemibfcaaGreat.row
open Go.RowKit Go.Proofs.YtbbjlfbemibfcaaGreat
set_option maxRecDepth 20000
theorem qpl {a:Int} {b:Nat} (e:a=(b:Int)) (h:b < 18446744073709551616):(Value.int .u64 (IntKind.u64.wrap a)) = .int .u64 (b:Int):=by
 rw [e,IntKind.wrap_u64];congr 1;omega
theorem zah (A:Option Addr) (c:Nat) (L:List Nat)  (w:World) (hx:ql (bf .u8) 1 w (Lt w.heap.size) A (ak L)) (h8:L.length≤8):Calls Tryz.prog 33 #[.slice A (ak L).length c] w fun e w'=>e = .returned (.int .i64 (IntKind.i64.wrap ((num L:Nat):Int)))∧Below w.heap.size w w' :=
 have hdl:(ak L).length=L.length:=iy L
 have hb8:∀ b ∈ L,b < 256:=qml hx
 uw (fn:=Tryz.f33) (r:=.int .i64 (IntKind.i64.wrap ((num L:Nat):Int))) (t:=.l (Nat) (fun x=>[(0,.slice A ((ak L).length) c,none),(3,.int .u64 ((num (L.take x):Nat):Int),none),(4,.int .i64 (x:Int),none)]) (fun x=>[]) [] [] (fun x=>[]) (fun x=>x≤L.length) (fun x=>L.length - x) (0:Nat) (fun y1=>.s (.e (.int .u64 ((num (L.take y1) * 256:Nat):Int)) (.p (au A) (ay A+y1 * 1) #[.int .u8 ((ak L).getD y1 0)] (.x (.int .u64 ((L.getD y1 0:Nat):Int)) (.e (.int .u64 ((num (L.take y1) * 256+L.getD y1 0:Nat):Int)) (.e (.int .i64 ((y1+1:Nat):Int)) .z))))) (.x (.int .i64 (IntKind.i64.wrap ((num (L.take y1):Nat):Int))) .z))) (X :=
 let k0:=(ak L).length;let k1:=([]:List (Option jv));xg w [] []∧((0:Nat)≤L.length)∧(([.slice A k0 c,.int .u64 0,.int .i64 0]:List Value)=[.slice A k0 c,.int .u64 ((num (L.take (0:Nat)):Nat):Int),.int .i64 ((0:Nat):Int)]∧k1=[]∧iw w [] [])∧true=true∧∀ (y1:Nat),let k2:=((num (L.take y1):Nat):Int);let k3:=((num (L.take y1) * 256+L.getD y1 0:Nat):Int);let k4:=decide ((y1:Int) < ((ak L).length:Int));let k5:=((num (L.take y1) * 256:Nat):Int);let k6:=((L.getD y1 0:Nat):Int);(y1≤L.length)→∀ τ3:Nat→Value,(k4=true→(.int .u64 (IntKind.u64.wrap (k2 * 256)):Value) = .int .u64 k5∧jd Tryz.prog w [] (Instr.indexAt 28 (.slice A k0 c) (.int .i64 (y1:Int))) (.pointer (some ⟨au A,ay A+y1 * 1,none⟩))∧o7 w [] (au A) (ay A+y1 * 1) #[.int .u8 ((ak L).getD y1 0)]∧jd Tryz.prog w [] (convert 5 95 (.int .u8 ((ak L).getD y1 0))) (.int .u64 k6)∧(.int .u64 (IntKind.u64.wrap (k5+k6)):Value) = .int .u64 k3∧(.int .i64 (IntKind.i64.wrap ((y1:Int)+1)):Value) = .int .i64 ((y1+1:Nat):Int)∧∃ x' : Nat,(x'≤L.length)∧(L.length - x' < L.length - y1)∧(([.slice A k0 c,.int .u64 k3,.int .i64 ((y1+1:Nat):Int)]:List Value)=[.slice A k0 c,.int .u64 ((num (L.take x'):Nat):Int),.int .i64 (x' : Int)]∧k1=[]∧iw w [] [])∧true=true)∧(k4=false→jd Tryz.prog w [] (convert 95 2 (.int .u64 k2)) (.int .i64 (IntKind.i64.wrap k2))∧((.int .i64 (IntKind.i64.wrap k2):Value) = .int .i64 (IntKind.i64.wrap ((num L:Nat):Int))))) Tryz.func33 (by kernel_rfl)
 (⟨(fun w _ _=>zh),(Nat.zero_le _),⟨rfl,rfl,(jm (List.nil_sublist _))⟩,rfl,fun y1 I2 τ3=>⟨fun h4=>have h4:(y1:Int) < ((ak L).length:Int):=(by simpa using h4)
⟨(qpl (by rw [Int.natCast_mul];rfl) (by have:=qm7 (l:=L) (i:=y1) (by omega) hb8;omega)),⟨(yw Tryz.underlying28 y9 Ny (Nat.le_refl _) hx rfl (by omega)),(qa0 Ny (Nat.le_refl _) hx (ou (by omega))),⟨(qvx Tryz.underlying5 Tryz.underlying95 (by omega) hb8),⟨(qpl (by rw [Int.natCast_add]) (by have:=qm7 (l:=L) (i:=y1) (by omega) hb8;have:=getD_lt (i:=y1) hb8;omega)),⟨lg (by omega) (by omega) (by omega),⟨((y1+1):Nat),(by omega),(by omega),⟨(by have e:=qoc (l:=L) (i:=y1) (by omega);simp only [e]<;>rfl),rfl,(jm (List.nil_sublist _))⟩,rfl⟩⟩⟩⟩⟩⟩,
 fun h4=>have h4:¬ (y1:Int) < ((ak L).length:Int):=(by simpa using h4)
⟨(qtt Tryz.underlying95 Tryz.underlying2),(by have e:L.take y1=L:=List.take_of_length_le (by omega);rw [e]<;>rfl)⟩⟩⟩)
end Go.Proofs.YtbbjlfbemibfcaaGreat.row
end
section
namespace Go.Proofs.YtbbjlfbemibfcaaGreat.row
open Go.RowKit Go.Proofs.YtbbjlfbemibfcaaGreat
set_option maxRecDepth 20000
open Go.Proofs.YtbbjlfbemibfcaaGreat.frame (be zi Me u le4)
def dn (k y:Nat):Int:=(k:Int) - 1 - y
def Ea (k U j:Nat):List Nat:=List.replicate (k - j) 0++(be k U).drop (k - j)
theorem q0t (k U:Nat):List.replicate k (0:Int)=ak (Ea k U 0):=by
 have e:(be k U).drop k=[]:=List.drop_of_length_le (by rw [zi];exact Nat.le_refl _)
 simp [Ea,ak,e]
theorem q62 (k U:Nat):Ea k U k=be k U:=by simp [Ea]
theorem qoi (U j:Nat):U / 256 ^ j / 256=U / 256 ^ (j+1):=by rw [Nat.pow_succ,Nat.div_div_eq_div_mul]
theorem q3g {k U j:Nat} (h:j < k):(ak (Ea k U j)).set (k - 1 - j) (((U / 256 ^ j % 256:Nat):Int))=ak (Ea k U (j+1)):=by
 have hb:=qpv k U (k - 1 - j) (by omega)
 rw [show k - 1 - (k - 1 - j)=j by omega] at hb
 have hl:k - 1 - j < (be k U).length:=by rw [zi];omega
 have e1:Ea k U j=List.replicate (k - 1 - j) 0++(0 :: (be k U).drop (k - j)):=by
  unfold Ea
  rw [show k - j=(k - 1 - j)+1 by omega,List.replicate_succ',List.append_assoc];rfl
 have e2:Ea k U (j+1)=List.replicate (k - 1 - j) 0++((U / 256 ^ j % 256) :: (be k U).drop (k - j)):=by
  unfold Ea
  rw [show k - (j+1)=k - 1 - j by omega,List.drop_eq_getElem_cons hl,show k - 1 - j+1=k - j by omega]
  rw [List.getD_eq_getElem?_getD,List.getElem?_eq_getElem hl] at hb
  simp only [Option.getD_some] at hb
  rw [hb]
 rw [e1,e2]
 unfold ak
 rw [List.map_append,List.map_append,List.set_append_right (h:=by simp)]
 simp
section
variable {P:Program} {w0:World} {D:List Fact} {T:TypeId} {a:Nat} {n:Int}
theorem zml (n:Int):u n≤18446744073709551615:=by unfold u;omega
theorem q3h {src dst:TypeId} (hs:P.underlying src=some (.int .i64)) (hd:P.underlying dst=some (.int .u64)):jd P w0 D (convert src dst (.int .i64 n)) (.int .u64 ((u n:Nat):Int)):=fun w _ _=>by
 have hk' : P.intKind dst = .u64:=by simp [Program.intKind,hd]
 rw [run_convert_int w src dst .i64 _ (by rw [hs];rfl) (by rw [hk'];exact hd),hk',IntKind.wrap_u64]
 congr 2
 unfold u;omega
theorem q63 {src dst:TypeId} (hs:P.underlying src=some (.int .u64)) (hd:P.underlying dst=some (.int .u8)) (h:a < 256):jd P w0 D (convert src dst (.int .u64 (a:Int))) (.int .u8 (a:Int)):=fun w _ _=>by
 have hk' : P.intKind dst = .u8:=by simp [Program.intKind,hd]
 rw [run_convert_int w src dst .u64 _ (by rw [hs];rfl) (by rw [hk'];exact hd),hk',IntKind.wrap_u8]
 congr 2
 omega
theorem q64 (ox oy:Operand):jd P w0 D (do eqGuard .rem T ox oy (.int .u64 (a:Int)) (.int .u64 256);Go.binOp .rem T (.int .u64 (a:Int)) (.int .u64 256)) (.int .u64 ((a % 256:Nat):Int)):=fun w _ _=>by
 have e:Int.tmod (a:Int) 256=((a % 256:Nat):Int):=by have:=Int.ofNat_tmod a 256;exact this.symm
 have e1:eqGuard .rem T ox oy (.int .u64 (a:Int)) (.int .u64 256)=pure ():=rfl
 have e2:Go.binOp .rem T (.int .u64 (a:Int)) (.int .u64 256)=Op.intDiv .rem .u64 (a:Int) 256:=by simp [Go.binOp]
 rw [e1,Sem.run_bind,Sem.run_pure,Result.andThen_ok,e2]
 unfold Op.intDiv
 rw [if_neg (by decide)]
 simp only [e]
 rfl
theorem q65 (h:a≤18446744073709551615) (ox oy:Operand):jd P w0 D (do eqGuard .quo T ox oy (.int .u64 (a:Int)) (.int .u64 256);Go.binOp .quo T (.int .u64 (a:Int)) (.int .u64 256)) (.int .u64 ((a / 256:Nat):Int)):=fun w _ _=>by
 have e:Int.tdiv (a:Int) 256=((a / 256:Nat):Int):=by have:=Int.ofNat_tdiv a 256;exact this.symm
 have e1:eqGuard .quo T ox oy (.int .u64 (a:Int)) (.int .u64 256)=pure ():=rfl
 have e2:Go.binOp .quo T (.int .u64 (a:Int)) (.int .u64 256)=Op.intDiv .quo .u64 (a:Int) 256:=by simp [Go.binOp]
 rw [e1,Sem.run_bind,Sem.run_pure,Result.andThen_ok,e2]
 unfold Op.intDiv
 rw [if_neg (by decide)]
 simp only [e]
 first
 |rfl
 |(rw [IntKind.wrap_u64];simp only [Sem.run_pure];congr 2;omega)
end
theorem q4s (n:Int) (k:Nat)  (w:World) (h8:1≤k∧k≤8):Calls Tryz.prog 28 #[.int .i64 n,.int .i64 (k:Int)] w fun e w' => ∃ x:Option Addr × Nat,e = .returned (.slice x.1 (ak (be k (u n))).length x.2)∧Below w.heap.size w w'∧xq (fun _=>False) w.heap.size ([ah (bf .u8) 1 5 x.1 (ak (be k (u n))).length x.2 (ak (be k (u n)))]) w' :=
 Le (fn:=Tryz.f28) (r:=fun (x:Option Addr × Nat)=>.slice x.1 (ak (be k (u n))).length x.2) (fs:=fun (x:Option Addr × Nat)=>[ah (bf .u8) 1 5 x.1 (ak (be k (u n))).length x.2 (ak (be k (u n)))]) (t:=.w (Nat) none (fun x=>.slice (some ⟨x,0,none⟩) k k) (fun x=>[ah (bf .u8) 1 5 (some ⟨x,0,none⟩) k k (List.replicate k 0)]) (fun x1=>let k0:Option Addr:=some ⟨x1,0,none⟩; .x (.int .u64 ((u n:Nat):Int)) (.e (.int .i64 (dn k 0)) (.l (Nat) (fun x=>[(5,.slice k0 k k,none),(6,.int .u64 ((u n / 256 ^ x:Nat):Int),none),(7,.int .i64 (dn k x),none)]) (fun x=>[]) [] [] (fun x=>[ah (bf .u8) 1 5 k0 k k (ak (Ea k (u n) x))]) (fun x=>x≤k) (fun x=>k - x) (0:Nat) (fun y2=>let k1:=((u n / 256 ^ y2 % 256:Nat):Int); .s (.x (.int .u64 k1) (.x (.int .u8 k1) (.x (.pointer (some ⟨au k0,ay k0+(k - 1 - y2) * 1,none⟩)) (.w (Unit) (some 0) (fun x=>undef) (fun x=>[ah (bf .u8) 1 5 k0 k k ((ak (Ea k (u n) y2)).set (k - 1 - y2) k1)]) (fun x6=>.x (.int .u64 ((u n / 256 ^ y2 / 256:Nat):Int)) (.e (.int .i64 (dn k (y2+1))) .z)))))) .z))))) (X :=
 let k0:Value:=.int .u64 256;let k1:=List.replicate k 0;let k2:=ak (be k (u n));let k3:=([]:List (Option jv));jw Tryz.prog w [] (Instr.makeSlice 28 (.int .i64 (k:Int)) (.int .i64 (k:Int))) (fun _=>False) (Nat) (fun x=>.slice (some ⟨x,0,none⟩) k k) (fun x=>[ah (bf .u8) 1 5 (some ⟨x,0,none⟩) k k k1])∧∀ x1:Nat,let k4:Option Addr:=some ⟨x1,0,none⟩;let k5:List Fact:=[ah (bf .u8) 1 5 k4 k k k1];jd Tryz.prog w k5 (convert 2 95 (.int .i64 n)) (.int .u64 ((u n:Nat):Int))∧(.int .i64 (IntKind.i64.wrap ((k:Int) - 1)):Value) = .int .i64 (dn k 0)∧xg w k5 []∧((0:Nat)≤k)∧(([.slice k4 k k,.int .u64 ((u n:Nat):Int),.int .i64 (dn k 0)]:List Value)=[.slice k4 k k,.int .u64 ((u n / 256 ^ (0:Nat):Nat):Int),.int .i64 (dn k (0:Nat))]∧k3=[]∧iw w k5 [ah (bf .u8) 1 5 k4 k k (ak (Ea k (u n) (0:Nat)))])∧true=true∧∀ (y2:Nat),let k6:=((u n / 256 ^ y2 % 256:Nat):Int);let k11:=ak (Ea k (u n) y2);let k7:List Fact:=[ah (bf .u8) 1 5 k4 k k k11];let k8:List Fact:=[ah (bf .u8) 1 5 k4 k k (k11.set (k - 1 - y2) k6)];let k9:Value:=.int .u64 ((u n / 256 ^ y2:Nat):Int);let k10:Value:=.pointer (some ⟨au k4,ay k4+(k - 1 - y2) * 1,none⟩);let k12:=((u n / 256 ^ y2 / 256:Nat):Int);let k13:=decide ((dn k y2) ≥ 0);(y2≤k)→∀ τ4:Nat→Value,(k13=true→jd Tryz.prog w k7 (do eqGuard BinOp.rem 95 (.tmp 20) (.const k0) k9 k0;Go.binOp BinOp.rem 95 k9 k0) (.int .u64 k6)∧jd Tryz.prog w k7 (convert 95 5 (.int .u64 k6)) (.int .u8 k6)∧jd Tryz.prog w k7 (Instr.indexAt 28 (.slice k4 k k) (.int .i64 (dn k y2))) k10∧Hu Tryz.prog w k7 (Instr.storeAt 5 k10 (.int .u8 k6)) ((ah (bf .u8) 1 5 k4 k k k11).S) (Unit) (fun x=>undef) (fun x=>k8)∧∀ x6:Unit,jd Tryz.prog w k8 (do eqGuard BinOp.quo 95 (.tmp 24) (.const k0) k9 k0;Go.binOp BinOp.quo 95 k9 k0) (.int .u64 k12)∧(.int .i64 (IntKind.i64.wrap ((dn k y2) - 1)):Value) = .int .i64 (dn k (y2+1))∧∃ x' : Nat,(x'≤k)∧(k - x' < k - y2)∧(([.slice k4 k k,.int .u64 k12,.int .i64 (dn k (y2+1))]:List Value)=[.slice k4 k k,.int .u64 ((u n / 256 ^ x' : Nat):Int),.int .i64 (dn k x')]∧k3=[]∧iw w k8 [ah (bf .u8) 1 5 k4 k k (ak (Ea k (u n) x'))])∧true=true)∧(k13=false→∃ x:Option Addr × Nat,(.slice k4 k k:Value) = .slice x.1 k2.length x.2∧iw w k7 ([ah (bf .u8) 1 5 x.1 k2.length x.2 k2]))) Tryz.func28 (by kernel_rfl)
 (⟨(qnv Tryz.underlying28 y9 (by (try unfold dn at *);omega) (by unfold maxLen;omega)),fun x1=>⟨(q3h Tryz.underlying2 Tryz.underlying95),⟨lg (by unfold dn;omega) (by (try unfold dn at *);omega) (by (try unfold dn at *);omega),⟨(fun w _ _=>zh),(Nat.zero_le _),⟨(by have e:u n / 256 ^ 0=u n:=(by simp);simp only [e]<;>rfl),rfl,(gq (by have e:=q0t k (u n);simp only [e]<;>rfl) (oq (fs:=[ah (bf .u8) 1 5 (some ⟨x1,0,none⟩) k k (List.replicate k 0)]) [0] (by decide) rfl))⟩,rfl,fun y2 I3 τ4=>⟨fun h5=>have h5:¬ (dn k y2) < 0:=(by simpa using h5)
⟨(q64 _ _),⟨(q63 Tryz.underlying95 Tryz.underlying5 (by (try unfold dn at *);omega)),⟨(Gp (by (try unfold dn at *);omega) (Gn Tryz.underlying28 y9 (ji (j:=0) rfl) (by (try unfold dn at *);omega))),⟨(qlz (ji (j:=0) rfl) (by (try unfold dn at *);omega) ((wf_u8 _).2 (by (try unfold dn at *);omega)) (by kernel_rfl)),fun x6=>⟨(q65 (Nat.le_trans (Nat.div_le_self _ _) (zml n)) _ _),⟨lg (by unfold dn;omega) (by (try unfold dn at *);omega) (by (try unfold dn at *);omega),⟨((y2+1):Nat),(by (try unfold dn at *);omega),(by (try unfold dn at *);omega),⟨(by have e:=qoi (u n) y2;simp only [e]<;>rfl),rfl,(gq (by have e:=q3g (k:=k) (U:=u n) (j:=y2) (by (try unfold dn at *);omega);simp only [e]<;>rfl) (oq (fs:=[ah (bf .u8) 1 5 (some ⟨x1,0,none⟩) k k ((ak (Ea k (u n) y2)).set (k - 1 - y2) ((u n / 256 ^ y2 % 256:Nat):Int))]) [0] (by decide) rfl))⟩,rfl⟩⟩⟩⟩⟩⟩⟩,
 fun h5=>have h5:(dn k y2) < 0:=(by simpa using h5)
⟨((some ⟨x1,0,none⟩),k),(by rw [show (ak (be k (u n))).length=k by rw [iy,zi]]),(gq (by have e:y2=k:=(by (try unfold dn at *);omega);have e2:=q62 k (u n);simp only [e,e2,iy,zi]<;>rfl) (oq (fs:=[ah (bf .u8) 1 5 (some ⟨x1,0,none⟩) k k (ak (Ea k (u n) y2))]) [0] (by decide) rfl))⟩⟩⟩⟩⟩⟩)
end Go.Proofs.YtbbjlfbemibfcaaGreat.row
end
section
namespace Go.Proofs.YtbbjlfbemibfcaaGreat.row
set_option maxRecDepth 20000
open Go.RowKit Go.Proofs.YtbbjlfbemibfcaaGreat
open Go.Proofs.YtbbjlfbemibfcaaGreat.frame (be zi Me u le4)
theorem q9c (b:Bool)  (w:World):Calls Tryz.prog 27 #[.bool b] w fun e w'=>e = .returned (.int .i64 (flag b))∧Below w.heap.size w w' :=
 uw (fn:=Tryz.f27) (r:=.int .i64 (flag b)) (t:=.s .z .z) (X :=
(b=true→((.int .i64 1:Value) = .int .i64 (flag b)))∧(b=false→((.int .i64 0:Value) = .int .i64 (flag b)))) Tryz.func27 (by kernel_rfl)
 (⟨fun h1=>(by unfold flag;rw [if_pos h1]),
 fun h1=>(by unfold flag;rw [if_neg (by rw [h1];decide)])⟩)
section
variable {w0:World} {D:List Fact} {n:Int} {k c:Nat} {b:Bool} {A:Option Addr} {L:List Nat}
theorem qv8:iq Tryz.prog w0 D 27 #[.bool b] (.int .i64 (flag b)):=fun w _ _=>q9c b w
theorem Fb (hx:∀ w,Below w0.heap.size w0 w→All D w→ql (bf .u8) 1 w (Lt w.heap.size) A (ak L)) (h:L.length≤8):iq Tryz.prog w0 D 33 #[.slice A (ak L).length c] (.int .i64 (IntKind.i64.wrap ((num L:Nat):Int))):=fun w hw ha=>zah A c L w (hx w hw ha) h
end
end Go.Proofs.YtbbjlfbemibfcaaGreat.row
end
section
namespace Go.Proofs.YtbbjlfbemibfcaaGreat.row
set_option maxRecDepth 20000
open Go.RowKit Go.Proofs.YtbbjlfbemibfcaaGreat
open Go.Proofs.YtbbjlfbemibfcaaGreat.book (St right)
section
variable {w0:World} {D:List Fact} {v:Sv} {s t:St} {A:Option Addr} {c:Nat} {L:List Nat}
theorem q3i (hs:∀ w,Below w0.heap.size w0 w→All D w→lu w (Lt w.heap.size) v s) (h:right s=false):qg Tryz.prog w0 D 10 #[.agg (bg v s)] (Option Addr × Nat) (fun x=>.tuple #[.slice x.1 0 x.2,.int .i64 1]) (fun x=>[]):=fun w hw ha=>by
 have h1:=qlk v s w (hs w hw ha)
 rw [qts h] at h1
 refine h1.mono ?_
 rintro e w' ⟨x,rfl,hb,_⟩
 exact ⟨x,rfl,hb,zh⟩
theorem q0u (hs:∀ w,Below w0.heap.size w0 w→All D w→lu w (Lt w.heap.size) v s) (h:right s=true):qg Tryz.prog w0 D 10 #[.agg (bg v s)] (Option Addr × Nat) (fun x=>.tuple #[.slice x.1 (ak (whole s)).length x.2,.int .i64 0]) (fun x=>[ah (bf .u8) 1 5 x.1 (ak (whole s)).length x.2 (ak (whole s))]):=fun w hw ha=>by
 have h1:=qlk v s w (hs w hw ha)
 rw [qp7 h] at h1
 exact h1
theorem qj9 (x:Dat (fun w S v=>lu w S v t) (Lt w0.heap.size) w0) {i:Nat} (hi:D[i]?=some (C9 x.1.1 x.1.2.1)):Uf w0 D (fun k=>Lt w0.heap.size k∨x.1.2.1 k) x.1.1:=fun w hw ha=>⟨fun k hk=>by
  rcases hk with hk | hk
  ·exact (hw.block k hk).trans (x.2.2.1 k hk).symm
  ·exact Z4 hi ha k hk,fun k hk=>by
  rcases hk with hk | hk
  ·exact Nat.lt_of_lt_of_le hk hw.size
  ·have h1:=Z4 hi ha k hk
   rw [Array.getElem?_eq_getElem (x.2.2.2 k hk)] at h1
   exact (Array.getElem?_eq_some_iff.1 h1).1⟩
end
end Go.Proofs.YtbbjlfbemibfcaaGreat.row
end
section
namespace Go.Proofs.YtbbjlfbemibfcaaGreat.row
set_option maxRecDepth 20000
open Go.RowKit Go.Proofs.YtbbjlfbemibfcaaGreat
open Go.Proofs.YtbbjlfbemibfcaaGreat.frame (le4)
open Go.Proofs.YtbbjlfbemibfcaaGreat.book (St right)
open Go.Proofs.YtbbjlfbemibfcaaGreat.crc (byte qc3 down more turn qul qw7 qqx)
section
variable {s:St} {L:List Nat}
end
end Go.Proofs.YtbbjlfbemibfcaaGreat.row
end
section
namespace Go.Proofs.YtbbjlfbemibfcaaGreat.row
set_option maxRecDepth 20000
open Go.RowKit Go.Proofs.YtbbjlfbemibfcaaGreat
open Go.Proofs.YtbbjlfbemibfcaaGreat.book (St right)
theorem qrz {w:World} {S:Nat→Prop} {A:Option Addr} {L:List Nat} (h:Q5 w S A L):ql (bf .u8) 1 w S A (ak L):=fun h0=>by
 obtain ⟨b,off,e,hS,hc⟩:=h.2 h0
 refine ⟨b,off,e,hS,fun j x hj=>⟨[.int .u8 x],rfl,fun i c hi=>?_,rfl,h.1 x (List.mem_of_getElem? hj)⟩⟩
 have hlt:j < (ak L).length:=(List.getElem?_eq_some_iff.1 hj).1
 have:=hc j hlt
 rw [List.getD_eq_getElem?_getD,hj] at this
 cases i with
 |zero=>simp at hi;subst hi;simpa using this
 |succ i=>simp at hi
section
variable {P:Program} {w0:World} {D:List Fact} {A:Option Addr} {n c:Nat} {L M:List Nat} {s t:St} {T:TypeId}
theorem qv9 {src dst:TypeId} (hs:P.underlying src=some (.slice 5)) (he:P.underlying 5=some (.int .u8)) (hd:P.underlying dst=some .string) {j:Nat} (h:D[j]?=some (ah (bf .u8) 1 5 A (ak L).length c (ak L))) :
  jd P w0 D (convert src dst (.slice A (ak L).length c)) (.string (wo L)):=fun w hw ha=>qkf (qkt (w0:=w0) h w hw ha) (by simp [ak]) src _ dst hs he hd
theorem qjd {k:Nat} {l:List Int} : ∀ b ∈ jf k l,b < 256:=fun b hb=>by
 unfold jf at hb
 obtain ⟨n,_,hb⟩:=List.mem_flatMap.1 hb
 exact frame.Me _ _ _ hb
theorem q66 (s:St):∀ b ∈ told s,b < 256:=fun b hb=>by
 rw [Sm] at hb
 simp only [t2,t1,List.mem_append,List.mem_flatMap] at hb
 rcases hb with ((hb | hb) | hb) | ⟨o,_,hb⟩ | ⟨o,_,hb⟩ | ⟨o,_,hb⟩ | hb
 ·simp at hb;omega
 ·exact qjd b hb
 ·exact qjd b hb
 ·simp only [xu,List.mem_append] at hb
  rcases hb with ((hb | hb) | hb) | hb<;>exact qjd b hb
 ·exact qjd b hb
 ·exact qjd b hb
 ·exact qjd b hb
end
section
variable {s:St} {f k a:Nat} {ys:List Nat}
end
section
variable {P:Program} {w0:World} {D:List Fact} {ys:List Nat} {g k n c:Nat} {A:Option Addr} {L:List Nat}
theorem Ed (a b c d a' b' c' d' : Nat) (h:a < 256∧b < 256∧c < 256∧d < 256) (h' : a' < 256∧b' < 256∧c' < 256∧d' < 256) (W:World) :
  (Op.equalIn 10000 43 (.agg #[.int .u8 (a:Int),.int .u8 (b:Int),.int .u8 (c:Int),.int .u8 (d:Int)]) (.agg #[.int .u8 (a' : Int),.int .u8 (b' : Int),.int .u8 (c' : Int),.int .u8 (d' : Int)])).run Tryz.prog W = .ok (decide (a=a'∧b=b'∧c=c'∧d=d')) W:=by
 have c1:Tryz.prog.cellsOf 5=1:=by kernel_rfl
 have kl:∀ a b c d:Nat,a < 256∧b < 256∧c < 256∧d < 256→Tryz.prog.keyLits 2 43 [.int .u8 (a:Int),.int .u8 (b:Int),.int .u8 (c:Int),.int .u8 (d:Int)]=some [.int .u8 (a:Int),.int .u8 (b:Int),.int .u8 (c:Int),.int .u8 (d:Int)]:=by
  rintro a b c d ⟨h0,h1,h2,h3⟩
  rw [q1w 1 _ Tryz.underlying43 (by kernel_rfl),c1]
  simp [List.range,List.range.loop,Yl 0 _ Tryz.underlying5,wf_u8,h0,h1,h2,h3]
 exact qii (by kernel_rfl) 2 (by kernel_rfl) (by kernel_rfl) (kl a b c d h) (kl a' b' c' d' h') _ (by simp;omega) W
end
end Go.Proofs.YtbbjlfbemibfcaaGreat.row
end
