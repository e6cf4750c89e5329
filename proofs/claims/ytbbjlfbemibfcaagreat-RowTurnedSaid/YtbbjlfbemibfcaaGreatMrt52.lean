/-
  RowX, RowY, RowZ, RowK
-/
import Derived.Test.YtbbjlfbemibfcaaGreatMrt49
import Derived.Test.YtbbjlfbemibfcaaGreatMrt50
import Derived.Test.YtbbjlfbemibfcaaGreatMrt43
set_option linter.unusedVariables false
set_option linter.unusedSimpArgs false
section
namespace Go.Proofs.YtbbjlfbemibfcaaGreat.row
set_option maxRecDepth 20000
open Go.RowKit Go.Proofs.YtbbjlfbemibfcaaGreat
open Go.Proofs.YtbbjlfbemibfcaaGreat.frame (be be_len be_lt u le4)
open Go.Proofs.YtbbjlfbemibfcaaGreat.book (St right HoldOk StepOk Mk There)
open Go.Proofs.YtbbjlfbemibfcaaGreat.order (Or oz)
open Go.Proofs.YtbbjlfbemibfcaaGreat.cell (Ce Ex)
theorem fold_be:∀ (k n a:Nat),(be k n).foldl (fun a b=>a * 256+b) a=a * 256 ^ k+n % 256 ^ k
 | 0,n,a=>by simp [be,Nat.mod_one]
 |k+1,n,a=>by
  rw [be,List.foldl_cons,fold_be k n,Nat.mod_pow_succ,Nat.pow_succ,Nat.add_mul,Nat.mul_assoc,Nat.mul_comm 256 (256 ^ k),Nat.mul_comm (n / 256 ^ k % 256) (256 ^ k)]
  omega
theorem num_be (k n:Nat):num (be k n)=n % 256 ^ k:=by
 unfold num;rw [fold_be];omega
section
variable {X R T:List Nat} {p q k:Nat} {x:Int}
theorem at_shift (hp:X.length=p):at_ (X++R) (p+q) k=at_ R q k:=by
 unfold at_
 rw [← List.drop_drop,← hp,List.drop_left]
theorem at_skip (n:Nat) (j:Nat) (h:j≤q):at_ (be j n++R) q k=at_ R (q - j) k:=by
 have:=at_shift (X:=be j n) (R:=R) (q:=q - j) (k:=k) (be_len j n)
 rwa [Nat.add_sub_cancel' h] at this
theorem at_big (h:frame.inR x):at_ (be 8 (u x)++R) 0 8=x:=by
 have e:((be 8 (u x)++R).drop 0).take 8=be 8 (u x):=by
  rw [List.drop_zero,List.take_left' (be_len 8 _)]
 unfold at_
 rw [e,num_be,IntKind.wrap_i64]
 unfold frame.inR at h
 unfold u
 have e2:(256:Nat) ^ 8=18446744073709551616:=by decide
 rw [e2]
 omega
theorem at_low (h:0≤x∧x≤255):at_ (be 1 (u x)++R) 0 1=x:=by
 have e:((be 1 (u x)++R).drop 0).take 1=be 1 (u x):=by
  rw [List.drop_zero,List.take_left' (be_len 1 _)]
 unfold at_
 rw [e,num_be,IntKind.wrap_i64]
 unfold u
 have e2:(256:Nat) ^ 1=256:=by decide
 rw [e2]
 omega
end
theorem flag_is (b:Bool):decide (flag b=1)=b:=by cases b<;>rfl
theorem flag_low (b:Bool):0≤flag b∧flag b≤255:=by cases b<;>decide
theorem ordB_is (o:Or) (R:List Nat):ordB o++R=be 8 (u o.i)++(be 1 (u o.a)++(be 1 (u o.y)++(be 1 (u o.d)++(be 1 (u o.h)++(be 8 (u o.q)++(be 8 (u o.p)++(be 8 (u o.f)++(be 8 (u o.m)++(be 8 (u o.r)++(be 8 (u o.v)++(be 1 (u (flag o.g))++R))))))))))):=by
 simp only [ordB,putB,List.flatMap_cons,List.flatMap_nil,List.append_nil,List.append_assoc]
theorem exB_is (x:Ex) (R:List Nat):exB x++R=be 8 (u x.l)++(be 8 (u x.s)++(be 8 (u x.n)++R)):=by
 simp only [exB,putB,List.flatMap_cons,List.flatMap_nil,List.append_nil,List.append_assoc]
def LowO (o:Or):Prop:=(0≤o.a∧o.a≤255)∧(0≤o.y∧o.y≤255)∧(0≤o.d∧o.d≤255)∧(0≤o.h∧o.h≤255)
theorem ord_back {o:Or} (hf:o.fine) (hl:LowO o) (R:List Nat):ordAt (ordB o++R) 0=o:=by
 obtain ⟨i,a,y,d,q,p,f,h,m,r,v,g⟩:=o
 obtain ⟨f1,_,_,_,f5,f6,f7,_,f9,f10,f11⟩:=hf
 obtain ⟨l1,l2,l3,l4⟩:=hl
 have e8:∀ (n:Nat) (R:List Nat) (q k:Nat),8≤q→at_ (be 8 n++R) q k=at_ R (q - 8) k:=fun n R q k h=>at_skip n 8 h
 have e1:∀ (n:Nat) (R:List Nat) (q k:Nat),1≤q→at_ (be 1 n++R) q k=at_ R (q - 1) k:=fun n R q k h=>at_skip n 1 h
 rw [ordB_is]
 unfold ordAt
 simp only [Nat.zero_add]
 congr 1
 ·exact at_big f1
 ·rw [e8 _ _ 8 _ (by decide)];exact at_low l1
 ·rw [e8 _ _ 9 _ (by decide),e1 _ _ _ _ (by decide)];exact at_low l2
 ·rw [e8 _ _ 10 _ (by decide),e1 _ _ _ _ (by decide),e1 _ _ _ _ (by decide)];exact at_low l3
 ·rw [e8 _ _ 12 _ (by decide),e1 _ _ _ _ (by decide),e1 _ _ _ _ (by decide),e1 _ _ _ _ (by decide),e1 _ _ _ _ (by decide)];exact at_big f5
 ·rw [e8 _ _ 20 _ (by decide),e1 _ _ _ _ (by decide),e1 _ _ _ _ (by decide),e1 _ _ _ _ (by decide),e1 _ _ _ _ (by decide),e8 _ _ _ _ (by decide)];exact at_big f6
 ·rw [e8 _ _ 28 _ (by decide),e1 _ _ _ _ (by decide),e1 _ _ _ _ (by decide),e1 _ _ _ _ (by decide),e1 _ _ _ _ (by decide),e8 _ _ _ _ (by decide),e8 _ _ _ _ (by decide)];exact at_big f7
 ·rw [e8 _ _ 11 _ (by decide),e1 _ _ _ _ (by decide),e1 _ _ _ _ (by decide),e1 _ _ _ _ (by decide)];exact at_low l4
 ·rw [e8 _ _ 36 _ (by decide),e1 _ _ _ _ (by decide),e1 _ _ _ _ (by decide),e1 _ _ _ _ (by decide),e1 _ _ _ _ (by decide),e8 _ _ _ _ (by decide),e8 _ _ _ _ (by decide),e8 _ _ _ _ (by decide)];exact at_big f9
 ·rw [e8 _ _ 44 _ (by decide),e1 _ _ _ _ (by decide),e1 _ _ _ _ (by decide),e1 _ _ _ _ (by decide),e1 _ _ _ _ (by decide),e8 _ _ _ _ (by decide),e8 _ _ _ _ (by decide),e8 _ _ _ _ (by decide),e8 _ _ _ _ (by decide)];exact at_big f10
 ·rw [e8 _ _ 52 _ (by decide),e1 _ _ _ _ (by decide),e1 _ _ _ _ (by decide),e1 _ _ _ _ (by decide),e1 _ _ _ _ (by decide),e8 _ _ _ _ (by decide),e8 _ _ _ _ (by decide),e8 _ _ _ _ (by decide),e8 _ _ _ _ (by decide),e8 _ _ _ _ (by decide)];exact at_big f11
 ·rw [e8 _ _ 60 _ (by decide),e1 _ _ _ _ (by decide),e1 _ _ _ _ (by decide),e1 _ _ _ _ (by decide),e1 _ _ _ _ (by decide),e8 _ _ _ _ (by decide),e8 _ _ _ _ (by decide),e8 _ _ _ _ (by decide),e8 _ _ _ _ (by decide),e8 _ _ _ _ (by decide),e8 _ _ _ _ (by decide)]
  show decide (at_ (be 1 (u (flag g))++R) 0 1=1)=g
  rw [at_low (flag_low g)];exact flag_is g
theorem ord_shift {X R:List Nat} {p:Nat} (hp:X.length=p):ordAt (X++R) p=ordAt R 0:=by
 have e0:=at_shift (X:=X) (R:=R) (q:=0) (k:=8) hp
 rw [Nat.add_zero] at e0
 unfold ordAt
 rw [e0]
 simp only [at_shift hp,Nat.zero_add]
theorem flat_at {α:Type} {f:α→List Nat} {k:Nat} (hk:∀ x,(f x).length=k):∀ {l:List α} {i:Nat} {x:α},l[i]?=some x→∀ (X R:List Nat),∃ X' R',X++(l.flatMap f++R)=X'++(f x++R')∧X'.length=X.length+k * i
 | [],i,x,h,X,R=>by simp at h
 |y :: l,0,x,h,X,R=>by
  simp at h;subst h
  exact ⟨X,l.flatMap f++R,by simp,by simp⟩
 |y :: l,i+1,x,h,X,R=>by
  rw [List.getElem?_cons_succ] at h
  obtain ⟨X',R',e1,e2⟩:=flat_at hk h (X++f y) R
  refine ⟨X',R',?_,?_⟩
  ·rw [← e1];simp
  ·rw [e2,List.length_append,hk,Nat.mul_add];omega
theorem map_range {α:Type} {g:Nat→α} {l:List α} (h:∀ i x,l[i]?=some x→g i=x):(List.range l.length).map g=l:=by
 apply List.ext_getElem?
 intro i
 rw [List.getElem?_map]
 rcases Nat.lt_or_ge i l.length with hi | hi
 ·rw [List.getElem?_range hi,List.getElem?_eq_getElem hi]
  exact congrArg some (h i _ (List.getElem?_eq_getElem hi))
 ·rw [List.getElem?_eq_none (by simpa using hi),List.getElem?_eq_none hi];rfl
section
variable {s:St}
theorem comeN_mk (hL:book.Lens s) (hH:HoldOk s) (e:StepOk s):∀ j,j≤s.os.length→comeN { s with cs:=Mk s 0 } j=Mk s j
 | 0,_=>rfl
 |j+1,hj=>by
  have hj' : j < s.os.length:=hj
  rw [comeN_next (s:={ s with cs:=Mk s 0 }) (j:=j) hj',comeN_mk hL hH e j (by omega)]
  have ho:=hH.1 _ (getD_mem (xs:=s.os) (z:=order.oz) hj')
  have ht:There { s with cs:=Mk s 0 } (s.os.getD j order.oz).a (s.os.getD j order.oz).y:=⟨ho.1.1.2.2.1,ho.2.2.1,ho.1.1.2.2.2.2.1,ho.2.2.2.1⟩
  unfold comeS
  rw [if_pos ht]
  exact book.Mk_next hL hH hj' (book.come_good hL hH e hj')
structure Whole (s:St):Prop where
 f:book.Fines s
 x:∀ x ∈ s.ls,x.fine
 p:∀ x ∈ s.ps,frame.inR x
theorem t2_is (s:St) (R:List Nat):t2 s++R=[115,110,97,102]++(be 1 (u s.a)++(be 1 (u s.y)++(be 1 (u (flag s.k))++(be 1 (u (s.os.length:Int))++(be 8 (u s.last)++(be 8 (u s.seq)++(be 8 (u s.lsn)++R))))))):=by
 simp only [t2,t1,putB,List.flatMap_cons,List.flatMap_nil,List.append_nil,List.append_assoc]
theorem told_is (s:St):told s=t2 s++(s.os.flatMap ordB++(s.cs.flatMap ceB++(s.ls.flatMap exB++putB 8 s.ps))):=by
 simp only [told,List.append_assoc]
theorem low_or {o:Or} (h:order.Rightly o):LowO o:=by
 obtain ⟨⟨_,_,a1,a2,y1,y2,d1,d2,_⟩,_,_,_,_,h5⟩:=h
 refine ⟨⟨a1,by omega⟩,⟨y1,by omega⟩,⟨by omega,by omega⟩,?_⟩
 rcases h5 with h5 | h5 | h5<;>omega
theorem raw_back (hs:book.Rightly s) (hw:Whole s):rawV (told s) s.a.toNat s.y.toNat s.os.length s.cs.length = { s with cs:=Mk s 0 }:=by
 obtain ⟨z1,z2,z3,hH,hS,z4⟩:=book.right_parts hs
 have hr:=lens_of (book.right_iff.2 hs)
 have hl:=hs.2.2.1
 have ha:=hr.a;have hy:=hr.y;have ho:=hr.o
 have e8:∀ (n:Nat) (R:List Nat) (q k:Nat),8≤q→at_ (be 8 n++R) q k=at_ R (q - 8) k:=fun n R q k h=>at_skip n 8 h
 have e1:∀ (n:Nat) (R:List Nat) (q k:Nat),1≤q→at_ (be 1 n++R) q k=at_ R (q - 1) k:=fun n R q k h=>at_skip n 1 h
 have e4:∀ (R:List Nat) (q k:Nat),at_ ([115,110,97,102]++R) (4+q) k=at_ R q k:=fun R q k=>at_shift rfl
 have hos:ords (told s) s.os.length=s.os:=map_range fun i o hi=>by
  obtain ⟨X',R',e,hX⟩:=flat_at (f:=ordB) (k:=61) (fun o=>by simp only [ordB,List.length_append,putB_len,List.length_cons,List.length_nil]) hi (t2 s) (s.cs.flatMap ceB++(s.ls.flatMap exB++putB 8 s.ps))
  rw [told_is,e]
  rw [t2_len] at hX
  have hm:=List.mem_of_getElem? hi
  rw [ord_shift hX]
  exact ord_back (hw.f.o o hm) (low_or (hH.1 o hm).1) _
 have hcs:ces (told s) s.os.length s.cs.length=Mk s 0:=by
  have hk:ces (told s) s.os.length s.cs.length=s.cs.map fun c=>(⟨c.p,0,0,0⟩:Ce):=by
   have:=map_range (g:=fun i=>ceAt (told s) (32+61 * s.os.length+8 * i)) (l:=s.cs.map fun c=>(⟨c.p,0,0,0⟩:Ce)) (fun i c hi=>by
    rw [List.getElem?_map,Option.map_eq_some_iff] at hi
    obtain ⟨c',hi,rfl⟩:=hi
    obtain ⟨X',R',e,hX⟩:=flat_at (f:=ceB) (k:=8) (fun o=>by simp only [ceB,putB_len,List.length_cons,List.length_nil]) hi (t2 s++s.os.flatMap ordB) (s.ls.flatMap exB++putB 8 s.ps)
    rw [List.length_append,t2_len,flat_ord] at hX
    have hm:=List.mem_of_getElem? hi
    show ceAt (told s) _=_
    rw [told_is,← List.append_assoc,e]
    unfold ceAt
    have es:=at_shift (X:=X') (R:=ceB c'++R') (q:=0) (k:=8) hX
    rw [Nat.add_zero] at es
    rw [es]
    have eb:ceB c'=be 8 (u c'.p):=by simp [ceB,putB]
    rw [eb,at_big (hw.f.c c' hm).1])
   rw [List.length_map] at this
   exact this
  rw [hk]
  apply List.ext_getElem?
  intro i
  rw [List.getElem?_map]
  rcases Nat.lt_or_ge i s.cs.length with hi | hi
  ·rw [book.Mk_at 0 hi,List.getElem?_eq_getElem hi]
   unfold book.part book.cellAt
   simp [book.sum,List.getD_eq_getElem?_getD,List.getElem?_eq_getElem hi]
  ·rw [List.getElem?_eq_none hi,List.getElem?_eq_none (by rw [book.Mk_len];exact hi)];rfl
 have hec:s.ls.length=s.cs.length:=by have:=hr.c.1;have:=hr.l.1;omega
 have hls:exs (told s) s.os.length s.cs.length s.cs.length=s.ls:=by
  rw [show exs (told s) s.os.length s.cs.length s.cs.length=exs (told s) s.os.length s.cs.length s.ls.length by rw [hec]]
  exact map_range fun i x hi=>by
   obtain ⟨X',R',e,hX⟩:=flat_at (f:=exB) (k:=24) (fun o=>by simp only [exB,putB_len,List.length_cons,List.length_nil]) hi (t2 s++s.os.flatMap ordB++s.cs.flatMap ceB) (putB 8 s.ps)
   rw [List.length_append,List.length_append,t2_len,flat_ord,flat_ce] at hX
   have hm:=List.mem_of_getElem? hi
   have hf:=hw.x x hm
   rw [told_is,← List.append_assoc,← List.append_assoc,e]
   unfold exAt
   have es:=at_shift (X:=X') (R:=exB x++R') (q:=0) (k:=8) hX
   rw [Nat.add_zero] at es
   rw [es,at_shift hX,at_shift hX,exB_is,at_big hf.1,e8 _ _ 8 _ (by decide),at_big hf.2.1,e8 _ _ 16 _ (by decide),e8 _ _ _ _ (by decide),at_big hf.2.2]
 have hps:caps (told s) s.os.length s.cs.length s.a.toNat=s.ps:=by
  rw [show s.a.toNat=s.ps.length by have:=hr.p;omega]
  exact map_range fun i x hi=>by
   obtain ⟨X',R',e,hX⟩:=flat_at (f:=fun n:Int=>be 8 (u n)) (k:=8) (fun o=>be_len 8 _) hi (t2 s++s.os.flatMap ordB++s.cs.flatMap ceB++s.ls.flatMap exB) []
   rw [List.append_nil] at e
   rw [List.length_append,List.length_append,List.length_append,t2_len,flat_ord,flat_ce,flat_ex] at hX
   have hm:=List.mem_of_getElem? hi
   have et:told s=X'++(be 8 (u x)++R'):=by rw [← e];rfl
   have es:=at_shift (X:=X') (R:=be 8 (u x)++R') (q:=0) (k:=8) (p:=32+61 * s.os.length+32 * s.cs.length+8 * i) (by omega)
   rw [Nat.add_zero] at es
   rw [et,es,at_big (hw.p x hm)]
 have hn:=hw.f.n
 have hk6:decide (at_ (told s) 6 1=1)=s.k:=by
  rw [told_is,t2_is,e4 _ 2 1,e1 _ _ 2 _ (by decide),e1 _ _ _ _ (by decide)]
  show decide (at_ (be 1 (u (flag s.k))++_) 0 1=1)=s.k
  rw [at_low (flag_low _)];exact flag_is _
 have h8:at_ (told s) 8 8=s.last:=by
  rw [told_is,t2_is,e4 _ 4 8,e1 _ _ 4 _ (by decide),e1 _ _ _ _ (by decide),e1 _ _ _ _ (by decide),e1 _ _ _ _ (by decide)]
  exact at_big hn.2.2.1
 have h16:at_ (told s) 16 8=s.seq:=by
  rw [told_is,t2_is,e4 _ 12 8,e1 _ _ 12 _ (by decide),e1 _ _ _ _ (by decide),e1 _ _ _ _ (by decide),e1 _ _ _ _ (by decide),e8 _ _ _ _ (by decide)]
  exact at_big hn.2.2.2.1
 have h24:at_ (told s) 24 8=s.lsn:=by
  rw [told_is,t2_is,e4 _ 20 8,e1 _ _ 20 _ (by decide),e1 _ _ _ _ (by decide),e1 _ _ _ _ (by decide),e1 _ _ _ _ (by decide),e8 _ _ _ _ (by decide),e8 _ _ _ _ (by decide)]
  exact at_big hn.2.2.2.2
 unfold rawV S0
 rw [hos,hcs,hls,hps,hk6,h8,h16,h24,Int.toNat_of_nonneg (by omega),Int.toNat_of_nonneg (by omega)]
end
end Go.Proofs.YtbbjlfbemibfcaaGreat.row
end
section
namespace Go.Proofs.YtbbjlfbemibfcaaGreat.row
set_option maxRecDepth 20000
open Go.RowKit Go.Proofs.YtbbjlfbemibfcaaGreat
open Go.Proofs.YtbbjlfbemibfcaaGreat.frame (be be_len be_lt u le4)
open Go.Proofs.YtbbjlfbemibfcaaGreat.book (St right HoldOk StepOk Mk There)
open Go.Proofs.YtbbjlfbemibfcaaGreat.order (Or oz)
open Go.Proofs.YtbbjlfbemibfcaaGreat.cell (Ce Ex)
section
variable {s:St}
theorem txt_whole (s:St):txt (whole s)=told s:=by
 have e:(whole s).length - 4=(told s).length:=by simp [whole,le4]
 unfold txt;rw [e];unfold whole;exact List.take_left
theorem sm_whole (s:St):sm (whole s)=le4 (crc.more 0 (told s)):=by
 have e:(whole s).length - 4=(told s).length:=by simp [whole,le4]
 unfold sm;rw [e];unfold whole;exact List.drop_left
theorem read_back (hs:book.Rightly s) (hw:Whole s):readV (told s) s.a.toNat s.y.toNat s.os.length s.cs.length=s:=by
 obtain ⟨z1,z2,z3,hH,hS,z4⟩:=book.right_parts hs
 have hL:=book.Lens.of hs
 unfold readV
 rw [raw_back hs hw,comeN_mk hL hH hS _ (Nat.le_refl _),book.Mk_end (Nat.le_refl _),hS.2.2]
theorem head_of (s:St):∃ l,whole s=115 :: 110 :: 97 :: 102 :: (u s.a % 256) :: (u s.y % 256) :: (u (flag s.k) % 256) :: (u (s.os.length:Int) % 256) :: l :=
 ⟨putB 8 [s.last,s.seq,s.lsn]++(s.os.flatMap ordB++(s.cs.flatMap ceB++(s.ls.flatMap exB++(putB 8 s.ps++le4 (crc.more 0 (told s)))))),by
  have e:putB 1 [s.a,s.y,flag s.k,(s.os.length:Int)]=[u s.a % 256,u s.y % 256,u (flag s.k) % 256,u (s.os.length:Int) % 256]:=by simp [putB,be]
  unfold whole
  generalize le4 (crc.more 0 (told s))=z
  unfold told t2 t1
  rw [e]
  simp [List.append_assoc]⟩
theorem heads (hr:Lens s):(whole s).getD 4 0=s.a.toNat∧(whole s).getD 5 0=s.y.toNat∧(whole s).getD 7 0=s.os.length∧(whole s).take 4=[115,110,97,102]:=by
 obtain ⟨l,e⟩:=head_of s
 have h1:=hr.a;have h2:=hr.y;have h3:=hr.o
 rw [e]
 refine ⟨?_,?_,?_,rfl⟩
 ·show u s.a % 256=s.a.toNat
  unfold u;omega
 ·show u s.y % 256=s.y.toNat
  unfold u;omega
 ·show u (s.os.length:Int) % 256=s.os.length
  unfold u;omega
theorem whole_size (hr:Lens s):(whole s).length=sizeN s:=by
 have:=told_len hr
 simp [whole,le4];omega
theorem maybe_whole (hr:Lens s):MayBe (whole s):=by
 obtain ⟨h4,h5,h7,ht⟩:=heads hr
 have h1:=hr.a;have h2:=hr.y;have h3:=hr.o
 unfold MayBe
 rw [h4,h5,h7,whole_size hr]
 exact ⟨(size_small hr).1,ht,by omega,by omega,by omega,by omega,h3,rfl⟩
theorem cells_n (hr:Lens s):s.a.toNat * s.y.toNat=s.cs.length:=by
 have h1:((s.a.toNat * s.y.toNat:Nat):Int)=s.a * s.y:=by
  rw [Int.natCast_mul,Int.toNat_of_nonneg (by have:=hr.a;omega),Int.toNat_of_nonneg (by have:=hr.y;omega)]
 have:=hr.c.1
 omega
theorem dec_back (h:right s=true) (hw:Whole s):decV (whole s)=(s,0):=by
 have hr:=lens_of h
 have hs:=book.right_iff.1 h
 obtain ⟨h4,h5,h7,ht⟩:=heads hr
 have e:rdV (whole s)=s:=by
  unfold rdV
  rw [txt_whole,h4,h5,h7,cells_n hr]
  exact read_back hs hw
 have:=dec_yes (L:=whole s) (maybe_whole hr) (by rw [sm_whole,txt_whole]) (by rw [e];exact h) (by rw [e,txt_whole])
 rw [e] at this
 exact this
theorem whole_of {w:World} {v:Sv} {S:Nat→Prop} (h:InS w S v s):Whole s:=⟨book.fines_of h,fine_ex h.l,fine_i64 h.k⟩
end
theorem own_raise {α:Type} {R:Rd α} {size lo:Nat} {w:World} {e:TypeId} {S:Nat→Prop} {A:Option Addr} {n c:Nat} {xs:List α} (h:OwnElems R size w 0 e S A n c xs) (hy:∀ k,(Value.slice A n c).ownBlock=some k→lo≤k):OwnElems R size w lo e S A n c xs:=by
 obtain ⟨css,⟨h1,h2⟩,hE,hl⟩:=h
 refine ⟨css,⟨h1,?_⟩,hE,hl⟩
 rcases h2 with h2 | ⟨g,cap,cur,hv,_,h3⟩
 ·exact .inl h2
 ·exact .inr ⟨g,cap,cur,hv,hy g (by rw [hv];rfl),h3⟩
theorem own_young {α:Type} {R:Rd α} (hR:Keeps R) {size lo:Nat} (hz:0 < size) {w:World} {e:TypeId} {A:Option Addr} {n c:Nat} {xs:List α} (h:OwnElems R size w 0 e (fun _=>False) A n c xs) (hy:∀ k,(ownF R size e A n c xs).S k→lo≤k):Elems R size w (fun k=>lo≤k∧k < w.heap.size) A xs :=
 (own_raise h hy).elems hR hz (fun _ h=>h.elim) (fun _ h1 h2=>⟨h1,h2⟩)
theorem new_in {w:World} {v:Sv} {s:St} {lo:Nat} (h:News (fun _=>False) lo (readF v s) w) (hf:frame.inR s.a∧frame.inR s.y∧frame.inR s.last∧frame.inR s.seq∧frame.inR s.lsn):InS w (fun k=>lo≤k∧k < w.heap.size) v s:=by
 obtain ⟨h1,h2,h3,h4,_⟩:=h.all
 have y:=fun f hf k hk=>(h.young f hf k hk).1.resolve_left id
 simp only [readF] at y
 exact ⟨own_young keeps_order (by decide) h1 (y _ (by simp)),own_young keeps_cell (by decide) h2 (y _ (by simp)),own_young keeps_expo (by decide) h3 (y _ (by simp)),own_young (keeps_int _) (by decide) h4 (y _ (by simp)),
  by have:=OwnElems.len h1;exact OwnElems.cap h1,OwnElems.cap h2,OwnElems.cap h3,OwnElems.cap h4,hf⟩
theorem dec_fine (L:List Nat):frame.inR (decV L).1.a∧frame.inR (decV L).1.y∧frame.inR (decV L).1.last∧frame.inR (decV L).1.seq∧frame.inR (decV L).1.lsn:=by
 have hz:frame.inR zst.a∧frame.inR zst.y∧frame.inR zst.last∧frame.inR zst.seq∧frame.inR zst.lsn:=⟨zero_in,zero_in,zero_in,zero_in,zero_in⟩
 unfold decV
 split
 ·rename_i hm
  split
  ·split
   ·exact rd_fine hm
   ·exact hz
  ·exact hz
 ·exact hz
section
variable {w0 W:World} {D:List Fact} {S:Nat→Prop} {A:Option Addr} {c:Nat} {L:List Nat}
theorem l_Decode_any (w:World) (hx:Elems (rdInt .u8) 1 w (Lt w.heap.size) A (toI L)) (hc:L.length≤c) (hl:L.length≤9223372036854775807) :
  Calls Tryz.prog 14 #[.slice A (toI L).length c] w fun e w' => ∃ x:Sv,e = .returned (.tuple #[.agg (stc x (decV L).1),.int .i64 (decV L).2])∧Below w.heap.size w w'∧News (fun _=>False) w.heap.size (readF x (decV L).1) w':=by
 by_cases hm:MayBe L
 ·have h0:0 < (toI L).length:=by rw [toI_len];have:=hm.1;omega
  obtain ⟨b,off,e,_⟩:=hx h0
  subst e
  exact l_Decode L b off c w hx hc hl
 ·exact l_Decode_no L A c w hx hc hl hm
theorem g_decode {s:St} {r:Int} (hd:Fixed w0 D S W) (hx:∀ w,Below w0.heap.size w0 w→All D w→Elems (rdInt .u8) 1 w (Lt w.heap.size) A (toI L)∧L.length≤c∧L.length≤9223372036854775807) (hv:decV L=(s,r)) :
  GivesM Tryz.prog w0 D 14 #[.slice A (toI L).length c] (Dat (fun w S v=>InS w S v s) S W) (fun x=>.tuple #[.agg (stc x.1.2.2 s),.int .i64 r]) (fun x=>[poolF x.1.1 x.1.2.1]) :=
 gives_dat (R:=fun w S v=>InS w S v s) (r:=fun b=>.tuple #[.agg (stc b s),.int .i64 r]) hd (fun w hw ha=>by
  obtain ⟨h1,h2,h3⟩:=hx w hw ha
  have h:=l_Decode_any w h1 h2 h3
  have hf:=dec_fine L
  rw [hv] at h hf
  refine h.mono ?_
  rintro e w' ⟨x,rfl,hb,hn⟩
  exact ⟨x,rfl,hb,(new_in hn hf).keep (alike_refl _ _) (fun _ h=>.inr h)⟩)
theorem g_same {v u:Sv} {s t:St} {b:Bool} (hs:∀ w,Below w0.heap.size w0 w→All D w→InS w (Lt w.heap.size) v s) (ht:∀ w,Below w0.heap.size w0 w→All D w→InS w (Lt w.heap.size) u t) (hb:decide (s=t)=b):Gives Tryz.prog w0 D 17 #[.agg (stc v s),.agg (stc u t)] (.bool b):=fun w hw ha=>by
 have h:=l_Same v s u t w (hs w hw ha) (ht w hw ha)
 rw [hb] at h
 exact h
end
end Go.Proofs.YtbbjlfbemibfcaaGreat.row
end
section
namespace Go.Proofs.YtbbjlfbemibfcaaGreat.row
set_option maxRecDepth 20000
open Go.RowKit Go.Proofs.YtbbjlfbemibfcaaGreat
open Go.Proofs.YtbbjlfbemibfcaaGreat.book (St right)
section
variable {w0:World} {D:List Fact} {v:Sv} {s t:St} {A:Option Addr} {c:Nat} {L:List Nat}
theorem c_enc_no (hs:∀ w,Below w0.heap.size w0 w→All D w→InS w (Lt w.heap.size) v s) (h:right s=false):GivesM Tryz.prog w0 D 10 #[.agg (stc v s)] (Option Addr × Nat) (fun x=>.tuple #[.slice x.1 0 x.2,.int .i64 1]) (fun x=>[]):=fun w hw ha=>by
 have h1:=l_Encode v s w (hs w hw ha)
 rw [enc_no h] at h1
 refine h1.mono ?_
 rintro e w' ⟨x,rfl,hb,_⟩
 exact ⟨x,rfl,hb,news_nil⟩
theorem c_enc_yes (hs:∀ w,Below w0.heap.size w0 w→All D w→InS w (Lt w.heap.size) v s) (h:right s=true):GivesM Tryz.prog w0 D 10 #[.agg (stc v s)] (Option Addr × Nat) (fun x=>.tuple #[.slice x.1 (toI (whole s)).length x.2,.int .i64 0]) (fun x=>[ownF (rdInt .u8) 1 5 x.1 (toI (whole s)).length x.2 (toI (whole s))]):=fun w hw ha=>by
 have h1:=l_Encode v s w (hs w hw ha)
 rw [enc_yes h] at h1
 exact h1
theorem own_dec {j:Nat} (h:D[j]?=some (ownF (rdInt .u8) 1 5 A (toI L).length c (toI L))):∀ w,Below w0.heap.size w0 w→All D w→Elems (rdInt .u8) 1 w (Lt w.heap.size) A (toI L)∧L.length≤c∧L.length≤9223372036854775807:=fun w _ ha =>
 ⟨(row_at h w ha).elems (S':=Lt w.heap.size) (keeps_int _) (by decide) (fun _ h=>h.elim) (fun _ _ h=>h),by
  have:=(row_at h w ha).cap
  rw [toI_len] at this
  exact this.1,by
  have:=(row_at h w ha).cap
  rw [toI_len] at this
  unfold maxLen at this
  omega⟩
end
end Go.Proofs.YtbbjlfbemibfcaaGreat.row
end
section
namespace Go.Proofs.YtbbjlfbemibfcaaGreat.row
set_option maxRecDepth 20000
open Go.RowKit Go.Proofs.YtbbjlfbemibfcaaGreat
open Go.Proofs.YtbbjlfbemibfcaaGreat.frame (le4)
open Go.Proofs.YtbbjlfbemibfcaaGreat.book (St right)
open Go.Proofs.YtbbjlfbemibfcaaGreat.crc (byte downs down more turn more_append more_burst bytes_xor)
theorem down_two (q:Nat):down (2 * q)=q:=by rw [crc.down_even _ (by omega)];omega
theorem downs_pow:∀ (k q:Nat),downs k (2 ^ k * q)=q
 | 0,q=>by simp [downs]
 |k+1,q=>by
  show downs k (down (2 ^ (k+1) * q))=q
  rw [Nat.pow_succ,Nat.mul_comm (2 ^ k) 2,Nat.mul_assoc,down_two]
  exact downs_pow k q
theorem xor_low (c:Nat):c ^^^ (c % 256)=2 ^ 8 * (c / 256):=by
 refine Nat.eq_of_testBit_eq fun j=>?_
 rw [Nat.testBit_xor,show (256:Nat)=2 ^ 8 from rfl,Nat.testBit_mod_two_pow,Nat.testBit_two_pow_mul,Nat.testBit_div_two_pow]
 by_cases h:j < 8
 ·simp [h,Nat.not_le.2 h]
 ·have h8:8≤j:=by omega
  simp [h,h8,show j - 8+8=j by omega]
theorem byte_own (c:Nat):byte c (c % 256)=c / 256:=by
 unfold byte
 rw [xor_low];exact downs_pow 8 _
theorem res_zero {c:Nat} (h:c < 4294967296):crc.bytes c (le4 c)=0:=by
 unfold le4 crc.bytes
 simp only [List.foldl_cons,List.foldl_nil]
 rw [byte_own,byte_own,show c / 65536 % 256=c / 256 / 256 % 256 by omega,byte_own,show c / 16777216 % 256=c / 256 / 256 / 256 % 256 by omega,byte_own]
 omega
theorem more_own {c:Nat} (h:c < 4294967296):more c (le4 c)=more 0 [0,0,0,0]:=by
 unfold more
 have e:=bytes_xor (le4 c) [0,0,0,0] rfl c 4294967295
 have e2:turn (le4 c) [0,0,0,0]=le4 c:=by simp [turn,le4]
 rw [e2,res_zero h,Nat.zero_xor] at e
 rw [e,Nat.zero_xor]
theorem code_of (T:List Nat) (hT:∀ b ∈ T,b < 256):more 0 (T++le4 (more 0 T))=more 0 [0,0,0,0]:=by
 rw [more_append]
 exact more_own (crc.more_lt T (by decide) (fun b hb=>Nat.lt_trans (hT b hb) (by decide)))
theorem turned_same {s t:St} {p d r:List Nat} (hs:∀ b ∈ told s,b < 256) (ht:∀ b ∈ told t,b < 256) (hd:d.length≤4) (hp:∀ b ∈ p,b=0) (hdb:∀ b ∈ d,b < 256) (hr:∀ b ∈ r,b=0) (hlen:(whole s).length=p.length+d.length+r.length)
  (e:whole t=turn (whole s) (p++d++r)):∀ b ∈ d,b=0:=by
 refine (more_burst (whole s) p d r hd hp hdb hr hlen).1 ?_
 rw [← e]
 unfold whole
 rw [code_of _ hs,code_of _ ht]
section
variable {s:St} {L:List Nat}
theorem dec_long (hr:Lens s) (h8:L.take 8=(whole s).take 8) (hn:L.length≠(whole s).length):decV L=(zst,2):=by
 refine dec_form fun hm=>hn ?_
 obtain ⟨h4,h5,h7,_⟩:=heads hr
 have at_:∀ i,i < 8→L.getD i 0=(whole s).getD i 0:=fun i hi=>by
  have:=congrArg (fun l:List Nat=>l.getD i 0) h8
  simp only [List.getD_eq_getElem?_getD,List.getElem?_take_of_lt hi] at this
  rw [List.getD_eq_getElem?_getD,List.getD_eq_getElem?_getD];exact this
 obtain ⟨_,_,_,_,_,_,_,h⟩:=hm
 rw [at_ 4 (by decide),at_ 5 (by decide),at_ 7 (by decide),h4,h5,h7] at h
 rw [h,whole_size hr];rfl
theorem dec_cut (hr:Lens s) {q:Nat} (hq:q < (whole s).length):decV ((whole s).take q)=(zst,2):=by
 have hl:((whole s).take q).length=q:=by rw [List.length_take];omega
 by_cases h:q < 36
 ·exact dec_form fun hm=>by have:=hm.1;omega
 ·exact dec_long hr (by rw [List.take_take,Nat.min_eq_left (by omega)]) (by omega)
theorem dec_more (hr:Lens s) {m:List Nat} (hm:m≠[]):decV (whole s++m)=(zst,2):=by
 have h36:36≤(whole s).length:=by rw [whole_size hr];exact (size_small hr).1
 have:0 < m.length:=List.length_pos_iff.2 hm
 exact dec_long hr (by rw [List.take_append_of_le_length (by omega)]) (by rw [List.length_append];omega)
end
end Go.Proofs.YtbbjlfbemibfcaaGreat.row
end
