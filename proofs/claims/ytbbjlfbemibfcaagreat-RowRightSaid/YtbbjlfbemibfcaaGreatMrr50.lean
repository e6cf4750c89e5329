/-
  zu0
-/
import Derived.Test.YtbbjlfbemibfcaaGreatMrr44
import Derived.Test.YtbbjlfbemibfcaaGreatMrr49
set_option linter.unusedVariables false
set_option linter.unusedSimpArgs false
namespace Go.Proofs.YtbbjlfbemibfcaaGreat.row
set_option maxRecDepth 20000
open Go.RowKit Go.Proofs.YtbbjlfbemibfcaaGreat
open Go.Proofs.YtbbjlfbemibfcaaGreat.frame (be zi Me u le4)
open Go.Proofs.YtbbjlfbemibfcaaGreat.book (St right Gz Jt Mk There Gf X5 qy CL)
open Go.Proofs.YtbbjlfbemibfcaaGreat.order (Or oz)
open Go.Proofs.YtbbjlfbemibfcaaGreat.cell (Ce Ex)
section
variable {L X T:List Nat} {p k an yn nn m i j:Nat}
theorem qrj (l:List Nat):num l=frame.num l:=rfl
theorem U9 (h:p+k≤L.length - 4):at_ (txt L) p k=at_ L p k:=by
 unfold at_ txt
 rw [List.drop_take,List.take_take,Nat.min_eq_left (by omega)]
theorem quc (h:32+61 * j≤L.length - 4):gy (txt L) j=gy L j:=List.map_congr_left fun i hi=>by
 have:=List.mem_range.1 hi
 unfold Iq
 simp (disch:=omega) only [U9]
theorem q7d (h:32+61 * nn+8 * j≤L.length - 4):qw (txt L) nn j=qw L nn j:=List.map_congr_left fun i hi=>by
 have:=List.mem_range.1 hi
 unfold Gi
 simp (disch:=omega) only [U9]
theorem q7e (h:32+61 * nn+8 * m+24 * j≤L.length - 4):exs (txt L) nn m j=exs L nn m j:=List.map_congr_left fun i hi=>by
 have:=List.mem_range.1 hi
 unfold Jy
 simp (disch:=omega) only [U9]
theorem q31 (h:32+61 * nn+32 * m+8 * j≤L.length - 4):caps (txt L) nn m j=caps L nn m j:=List.map_congr_left fun i hi=>by
 have:=List.mem_range.1 hi
 simp (disch:=omega) only [U9]
theorem q7f (h:L.length=36+61 * nn+32 * m+8 * an):Bd (txt L) an yn nn m=Bd L an yn nn m:=by
 unfold Bd S0
 rw [quc (by omega),q7d (by omega),q7e (by omega),q31 (by omega),U9 (by omega),U9 (by omega),U9 (by omega),U9 (by omega)]
theorem Qg (hA:L.getD 4 0=an) (hY:L.getD 5 0=yn) (hN:L.getD 7 0=nn) (hm:m=an * yn) :
  Ey L ↔ 36≤L.length∧L.take 4=[115,110,97,102]∧1≤an∧an≤8∧1≤yn∧yn≤8∧nn≤64∧L.length=36+61 * nn+32 * m+8 * an:=by
 unfold Ey Qw
 rw [hA,hY,hN,← hm]
 constructor
 ·rintro ⟨h1,h2,h3,h4,h5,h6,h7,h8⟩;exact ⟨h1,h2,h3,h4,h5,h6,h7,by omega⟩
 ·rintro ⟨h1,h2,h3,h4,h5,h6,h7,h8⟩;exact ⟨h1,h2,h3,h4,h5,h6,h7,by omega⟩
theorem O6 (h:4≤L.length):L.take 4=[115,110,97,102] ↔ L.getD 0 0=115∧L.getD 1 0=110∧L.getD 2 0=97∧L.getD 3 0=102:=by
 match L,h with
 |a :: b :: c :: d :: l,_=>simp
theorem Ti (L:List Nat) (i:Nat):(ak L).getD i 0=((L.getD i 0:Nat):Int):=by
 unfold ak
 rw [List.getD_eq_getElem?_getD,List.getD_eq_getElem?_getD,List.getElem?_map]
 cases L[i]?<;>rfl
theorem qlo:(Di T an yn nn m).os=gy T nn∧(Di T an yn nn m).cs.length=m∧(Di T an yn nn m).a=an∧(Di T an yn nn m).y=yn∧(Di T an yn nn m).ls=exs T nn m m∧(Di T an yn nn m).ps=caps T nn m an∧(Di T an yn nn m).k=decide (at_ T 6 1=1) :=
 ⟨rfl,by show (D9 _ _).length=m;rw [qip];exact Nk _ _ _,rfl,rfl,rfl,rfl,rfl⟩
theorem qx5 (hr:book.aj (Di T an yn nn m)):Whole (Di T an yn nn m):=by
 have hf:=Xu (L:=T) (nn:=nn) (m:=m) (an:=an) (yn:=yn) (by
  obtain ⟨⟨a1,a2,a3,a4⟩,_,_,⟨_,_,c3⟩,_⟩:=hr
  have a1:(1:Int)≤(an:Int):=a1
  have a2:(an:Int)≤8:=a2
  have a3:(1:Int)≤(yn:Int):=a3
  have a4:(yn:Int)≤8:=a4
  have c3:(gy T nn).length≤64:=c3
  rw [Ir] at c3
  omega) nn m m an
 refine ⟨⟨hf.o,fun c hc=>(hr.2.2.2.2.2.2.1.2.1 c hc).1,hf.n⟩,fun x hx=>?_,fun x hx=>?_⟩
 ·obtain ⟨i,_,rfl⟩:=List.mem_map.1 hx
  exact Qu _ _
 ·obtain ⟨i,_,rfl⟩:=List.mem_map.1 hx
  exact Hl _ _ _
theorem q7g (hl:L.length=36+61 * nn+32 * m+8 * an) (hr:right (Di (txt L) an yn nn m)=true) (he:txt L=told (Di (txt L) an yn nn m)):Bd L an yn nn m = { Di (txt L) an yn nn m with cs:=Mk (Di (txt L) an yn nn m) 0 }:=by
 have hs:=book.dh.1 hr
 have h:=qt2 hs (qx5 hs)
 rw [← he] at h
 obtain ⟨e1,e2,e3,e4,_⟩:=qlo (T:=txt L) (an:=an) (yn:=yn) (nn:=nn) (m:=m)
 rw [e1,e2,e3,e4,Ir,Int.toNat_natCast,Int.toNat_natCast,q7f hl] at h
 exact h
theorem zmw (s:St):(Mk s 0).map Ce.p=s.cs.map Ce.p:=by
 apply List.ext_getElem?
 intro i
 rw [List.getElem?_map,List.getElem?_map]
 rcases Nat.lt_or_ge i s.cs.length with hi | hi
 ·rw [book.qm4 0 hi,List.getElem?_eq_getElem hi]
  unfold book.part book.cellAt
  simp [List.getD_eq_getElem?_getD,List.getElem?_eq_getElem hi]
 ·rw [List.getElem?_eq_none hi,List.getElem?_eq_none (by rw [book.Ll];exact hi)]
theorem q9h {s:St} (hs:book.aj s):Gf { s with cs:=Mk s 0 }:=by
 obtain ⟨z1,z2,z3,hH,hS,z4⟩:=book.lq hs
 refine ⟨hs.1,?_,fun o ho=>⟨(hH.1 o ho).1,(hH.1 o ho).2.2.1,(hH.1 o ho).2.2.2.1⟩⟩
 show ((Mk s 0).length:Int)=s.a * s.y
 rw [book.Ll];exact hs.2.1.1
theorem q07 {s:St} (hs:book.aj s):CL { s with cs:=Mk s 0 }=s.cs:=by
 show book.cellsOf s.y s.os ((Mk s 0).map Ce.p)=s.cs
 rw [zmw];exact hs.2.2.2.2.2.2.2.symm
theorem q9i {s:St} (hs:book.aj s):qy { s with cs:=Mk s 0 }=true:=by
 have h:=q07 hs
 unfold CL at h
 unfold qy
 rw [h]
 exact decide_eq_true hs.2.2.2.2.2.2.1
theorem q7h {Y R:List Nat} {o:Or} (hp:Y.length=p):at_ (Y++(xu o++R)) (p+60) 1=flag o.g:=by
 have e8:∀ (n:Nat) (R:List Nat) (q k:Nat),8≤q→at_ (be 8 n++R) q k=at_ R (q - 8) k:=fun n R q k h=>Y8 n 8 h
 have e1:∀ (n:Nat) (R:List Nat) (q k:Nat),1≤q→at_ (be 1 n++R) q k=at_ R (q - 1) k:=fun n R q k h=>Y8 n 1 h
 rw [Sl hp,qqd,e8 _ _ 60 _ (by decide),e1 _ _ _ _ (by decide),e1 _ _ _ _ (by decide),e1 _ _ _ _ (by decide),e1 _ _ _ _ (by decide),e8 _ _ _ _ (by decide),e8 _ _ _ _ (by decide),e8 _ _ _ _ (by decide),e8 _ _ _ _ (by decide),e8 _ _ _ _ (by decide),e8 _ _ _ _ (by decide)]
 exact Xy (qlm o.g)
theorem qws (b:Bool):flag b≤1:=by cases b<;>decide
theorem q33 (hb:∀ b ∈ L,b < 256) (hl:L.length=36+61 * nn+32 * m+8 * an) (he:txt L=told (Di (txt L) an yn nn m)) (hi:i < nn):(ak L).getD (32+61 * i+60) 0≤1:=by
 have ho:(Di (txt L) an yn nn m).os[i]?=some ((Di (txt L) an yn nn m).os.getD i oz):=ou (by rw [qlo.1,Ir];exact hi)
 obtain ⟨X',R',e,hX⟩:=qjc (f:=xu) (k:=61) (fun o=>by simp only [xu,List.length_append,qc1,List.length_cons,List.length_nil]) ho (t2 (Di (txt L) an yn nn m)) ((Di (txt L) an yn nn m).cs.flatMap Fv++((Di (txt L) an yn nn m).ls.flatMap Ie++jf 8 (Di (txt L) an yn nn m).ps))
 rw [Xk] at hX
 have h1:=q7h (R:=R') (o:=(Di (txt L) an yn nn m).os.getD i oz) hX
 rw [← e,← Sm,← he,U9 (by omega),Sj hb (by omega)] at h1
 rw [Ti,h1]
 exact qws _
theorem q34 (hb:∀ b ∈ L,b < 256) (hl:L.length=36+61 * nn+32 * m+8 * an) (he:txt L=told (Di (txt L) an yn nn m)):(ak L).getD 6 0≤1:=by
 have e1:∀ (n:Nat) (R:List Nat) (q k:Nat),1≤q→at_ (be 1 n++R) q k=at_ R (q - 1) k:=fun n R q k h=>Y8 n 1 h
 have e4:∀ (R:List Nat) (q k:Nat),at_ ([115,110,97,102]++R) (4+q) k=at_ R q k:=fun R q k=>Sl rfl
 have h1:at_ (told (Di (txt L) an yn nn m)) 6 1=flag (Di (txt L) an yn nn m).k:=by
  rw [Sm,qm9,e4 _ 2 1,e1 _ _ 2 _ (by decide),e1 _ _ _ _ (by decide)]
  exact Xy (qlm _)
 rw [← he,U9 (by omega),Sj hb (by omega)] at h1
 rw [Ti,h1]
 exact qws _
theorem zak (hb:∀ b ∈ X,b < 256) (hp:p+k≤X.length) (hk:k≤8):be k (u (at_ X p k))=(X.drop p).take k:=by
 have hl:((X.drop p).take k).length=k:=by rw [List.length_take,List.length_drop];omega
 have hlt:∀ b ∈ (X.drop p).take k,b < 256:=fun b h=>hb b (List.mem_of_mem_drop (List.mem_of_mem_take h))
 have h1:=frame.ql1 _ hlt
 have h2:=frame.q7s _ hlt
 rw [hl] at h1 h2
 have h3:(256:Nat) ^ k≤256 ^ 8:=Nat.pow_le_pow_right (by decide) hk
 have h4:(256:Nat) ^ 8=18446744073709551616:=by decide
 have e:u (at_ X p k)=frame.num ((X.drop p).take k):=by
  unfold at_
  rw [qrj,IntKind.wrap_i64]
  unfold u
  omega
 rw [e];exact h2
theorem Ia (hb:∀ b ∈ X,b < 256) (hp:p+k≤X.length) (hk:k≤8):X.take p++be k (u (at_ X p k))=X.take (p+k):=by
 rw [zak hb hp hk,List.take_add]
theorem qud (hb:∀ b ∈ X,b < 256) (hp:p+1≤X.length) (hf:(ak X).getD p 0≤1):X.take p++be 1 (u (flag (decide (at_ X p 1=1))))=X.take (p+1):=by
 have e:flag (decide (at_ X p 1=1))=at_ X p 1:=by
  rw [Ti] at hf
  rw [Sj hb (by omega)]
  unfold flag
  by_cases h:((X.getD p 0:Nat):Int)=1
  ·rw [decide_eq_true h,if_pos rfl,h]
  ·rw [decide_eq_false h,if_neg (by decide)];omega
 rw [e];exact Ia hb hp (by decide)
theorem q7i (hb:∀ b ∈ X,b < 256) (hp:p+61≤X.length) (hf:(ak X).getD (p+60) 0≤1):X.take p++xu (Iq X p)=X.take (p+61):=by
 have e:=qqd (Iq X p) []
 rw [List.append_nil,List.append_nil] at e
 rw [e]
 unfold Iq
 simp only [← List.append_assoc]
 rw [Ia hb (by omega) (by decide),Ia hb (by omega) (by decide),Ia hb (by omega) (by decide),Ia hb (by omega) (by decide)]
 have e11:=Ia (X:=X) (p:=p+11) (k:=1) hb (by omega) (by decide)
 rw [show p+8+1+1+1=p+11 by omega] at *
 rw [e11,show p+11+1=p+12 by omega,Ia hb (by omega) (by decide),show p+12+8=p+20 by omega,Ia hb (by omega) (by decide),show p+20+8=p+28 by omega,Ia hb (by omega) (by decide),show p+28+8=p+36 by omega,
  Ia hb (by omega) (by decide),show p+36+8=p+44 by omega,Ia hb (by omega) (by decide),show p+44+8=p+52 by omega,Ia hb (by omega) (by decide),show p+52+8=p+60 by omega]
 exact qud hb (by omega) hf
theorem qlp {α:Type} {f:α→List Nat} {g:Nat→α} {q w:Nat} (h:∀ i,i < j→X.take (q+w * i)++f (g i)=X.take (q+w * (i+1))):X.take q++((List.range j).map g).flatMap f=X.take (q+w * j):=by
 induction j with
 |zero=>simp
 |succ j ih =>
  rw [List.range_succ,List.map_append,List.flatMap_append,← List.append_assoc,ih (fun i hi=>h i (by omega))]
  simpa using h j (by omega)
theorem q08 {cs:List Ce} (hb:∀ b ∈ L,b < 256) (hl:L.length=36+61 * nn+32 * m+8 * an) (h4:L.take 4=[115,110,97,102]) (hA:L.getD 4 0=an) (hY:L.getD 5 0=yn) (hN:L.getD 7 0=nn)
  (hk:(ak L).getD 6 0≤1) (hf:∀ i,i < nn→(ak L).getD (32+61 * i+60) 0≤1) (hc:cs.map Ce.p=(qw L nn m).map Ce.p):told { Bd L an yn nn m with cs:=cs }=txt L:=by
 have a4:at_ L 4 1=(an:Int):=by rw [Sj hb (by omega),hA]
 have a5:at_ L 5 1=(yn:Int):=by rw [Sj hb (by omega),hY]
 have a7:at_ L 7 1=(nn:Int):=by rw [Sj hb (by omega),hN]
 have c1:cs.flatMap Fv=(qw L nn m).flatMap Fv:=by
  have e:∀ l:List Ce,l.flatMap Fv=(l.map Ce.p).flatMap (fun p=>jf 8 [p]):=fun l=>by
   induction l with
   |nil=>rfl
   |cons c l ih=>rw [List.map_cons,List.flatMap_cons,List.flatMap_cons,ih];rfl
  rw [e,e,hc]
 have e:=qm9 { Bd L an yn nn m with cs:=cs } []
 rw [List.append_nil,List.append_nil] at e
 rw [Sm,e]
 show [115,110,97,102]++(be 1 (u (an:Int))++(be 1 (u (yn:Int))++(be 1 (u (flag (decide (at_ L 6 1=1))))++(be 1 (u ((gy L nn).length:Int))++(be 8 (u (at_ L 8 8))++(be 8 (u (at_ L 16 8))++be 8 (u (at_ L 24 8))))))))++((gy L nn).flatMap xu++(cs.flatMap Fv++((exs L nn m m).flatMap Ie++jf 8 (caps L nn m an))))=txt L
 rw [Ir,c1,← a4,← a5,← a7,← h4]
 simp only [← List.append_assoc]
 rw [Ia hb (by omega) (by decide),Ia hb (by omega) (by decide),qud hb (by omega) hk,Ia (p:=7) hb (by omega) (by decide),Ia (p:=8) hb (by omega) (by decide),Ia (p:=16) hb (by omega) (by decide),Ia (p:=24) hb (by omega) (by decide)]
 have p1:L.take 32++(gy L nn).flatMap xu=L.take (32+61 * nn):=qlp (X:=L) (f:=xu) (q:=32) (w:=61) (fun i hi=>by
  rw [q7i hb (by omega) (hf i hi)];congr 1)
 have p2:L.take (32+61 * nn)++(qw L nn m).flatMap Fv=L.take (32+61 * nn+8 * m):=qlp (X:=L) (f:=Fv) (q:=32+61 * nn) (w:=8) (fun i hi=>by
  have e:Fv (Gi L (32+61 * nn+8 * i))=be 8 (u (at_ L (32+61 * nn+8 * i) 8)):=by simp [Fv,Gi,jf]
  rw [e,Ia hb (by omega) (by decide)];congr 1)
 have p3:L.take (32+61 * nn+8 * m)++(exs L nn m m).flatMap Ie=L.take (32+61 * nn+8 * m+24 * m):=qlp (X:=L) (f:=Ie) (q:=32+61 * nn+8 * m) (w:=24) (fun i hi=>by
  have e:=q0o (Jy L (32+61 * nn+8 * m+24 * i)) []
  rw [List.append_nil,List.append_nil] at e
  rw [e]
  unfold Jy
  simp only [← List.append_assoc]
  rw [Ia hb (by omega) (by decide),Ia hb (by omega) (by decide),show 32+61 * nn+8 * m+24 * i+8+8=32+61 * nn+8 * m+24 * i+16 by omega,Ia hb (by omega) (by decide)];congr 1)
 have p4:L.take (32+61 * nn+32 * m)++jf 8 (caps L nn m an)=L.take (32+61 * nn+32 * m+8 * an):=qlp (X:=L) (f:=fun n=>be 8 (u n)) (q:=32+61 * nn+32 * m) (w:=8) (fun i hi=>by
  rw [Ia hb (by omega) (by decide)];congr 1)
 show L.take 32++_++_++_++_=_
 rw [p1,p2,p3,show 32+61 * nn+8 * m+24 * m=32+61 * nn+32 * m by omega,p4]
 unfold txt
 congr 1;omega
def fin (L:List Nat) (an yn nn m:Nat):St:={ Bd L an yn nn m with cs:=CL (Bd L an yn nn m) }
def q4x (L:List Nat) (an yn nn m:Nat):Prop:=Gf (Bd L an yn nn m)∧qy (Bd L an yn nn m)=true∧(ak L).getD 6 0≤1 ∧
 (∀ i,i < nn→((gy L nn).getD i oz).a < an∧((gy L nn).getD i oz).y < yn∧(ak L).getD (32+61 * i+60) 0≤1)∧right (fin L an yn nn m)=true
theorem q7j (hb:∀ b ∈ L,b < 256) (hA:L.getD 4 0=an) (hY:L.getD 5 0=yn) (hN:L.getD 7 0=nn) (hm:m=an * yn) (hl:L.length=36+61 * nn+32 * m+8 * an) (h1:Ey L) (h2:sm L=le4 (crc.more 0 (txt L))) (hn:¬ q4x L an yn nn m):ig L=(uo,2):=by
 have e:yj L=Di (txt L) an yn nn m:=by unfold yj;rw [hA,hY,hN,← hm]
 by_cases h3:right (yj L)=true
 ·by_cases h4:txt L=told (yj L)
  ·exfalso;apply hn
   rw [e] at h3 h4
   have hs:=book.dh.1 h3
   have k:=q7g hl h3 h4
   have kc:CL (Bd L an yn nn m)=(Di (txt L) an yn nn m).cs:=by rw [k];exact q07 hs
   have kf:fin L an yn nn m=Di (txt L) an yn nn m:=by
    unfold fin;rw [kc,k]
   refine ⟨by rw [k];exact q9h hs,by rw [k];exact q9i hs,q34 hb hl h4,fun i hi=>?_,by rw [kf];exact h3⟩
   have hH:=(book.lq hs).2.2.2.1
   have ho:(gy L nn).getD i oz ∈ (Di (txt L) an yn nn m).os:=by
    rw [qlo.1,quc (by omega)];exact l7 (by rw [Ir];exact hi)
   exact ⟨(hH.1 _ ho).2.2.1,(hH.1 _ ho).2.2.2.1,q33 hb hl h4 hi⟩
  ·exact qqc h1 h2 h4
 ·exact qqb h1 h2 (by simpa using h3)
theorem que (hb:∀ b ∈ L,b < 256) (hA:L.getD 4 0=an) (hY:L.getD 5 0=yn) (hN:L.getD 7 0=nn) (hl:L.length=36+61 * nn+32 * m+8 * an) (h4:L.take 4=[115,110,97,102]) (h2:sm L=le4 (crc.more 0 (txt L))) (h:q4x L an yn nn m):ig L=(fin L an yn nn m,0):=by
 obtain ⟨hI,hO,hk,hf,hr⟩:=h
 have hs:=book.dh.1 hr
 have hcp:(CL (Bd L an yn nn m)).map Ce.p=(qw L nn m).map Ce.p:=by
  show (book.cellsOf _ _ ((qw L nn m).map Ce.p)).map Ce.p=_
  unfold book.cellsOf
  apply List.ext_getElem?
  intro i
  rw [List.getElem?_map,List.getElem?_mapIdx,Option.map_map]
  cases ((qw L nn m).map Ce.p)[i]?<;>rfl
 have ht:told (fin L an yn nn m)=txt L:=q08 hb hl h4 hA hY hN hk (fun i hi=>(hf i hi).2.2) hcp
 have hw:whole (fin L an yn nn m)=L:=by
  unfold whole
  rw [ht,← h2]
  exact List.take_append_drop _ _
 have hwh:Whole (fin L an yn nn m):=by
  have hf:=Xu (L:=L) (nn:=nn) (m:=m) (an:=an) (yn:=yn) (by
   obtain ⟨⟨a1,a2,a3,a4⟩,_,_,⟨_,_,c3⟩,_⟩:=hs
   have a1:(1:Int)≤(an:Int):=a1
   have a2:(an:Int)≤8:=a2
   have a3:(1:Int)≤(yn:Int):=a3
   have a4:(yn:Int)≤8:=a4
   have c3:(gy L nn).length≤64:=c3
   rw [Ir] at c3
   omega) nn m m an
  refine ⟨⟨hf.o,fun c hc=>(hs.2.2.2.2.2.2.1.2.1 c hc).1,hf.n⟩,fun x hx=>?_,fun x hx=>?_⟩
  ·obtain ⟨i,_,rfl⟩:=List.mem_map.1 hx
   exact Qu _ _
  ·obtain ⟨i,_,rfl⟩:=List.mem_map.1 hx
   exact Hl _ _ _
 have hd:=q3f hr hwh
 rw [hw] at hd
 exact hd
end
end Go.Proofs.YtbbjlfbemibfcaaGreat.row
