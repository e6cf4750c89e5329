/-
  ziw, Cls, zot, zou
-/
import Derived.Test.YtbbjlfbemibfcaaGreatRows
import Derived.Test.YtbbjlfbemibfcaaGreatMrr10
import Derived.Test.YtbbjlfbemibfcaaGreatMrr11
import Derived.Test.YtbbjlfbemibfcaaGreatMrr04
import Derived.Test.YtbbjlfbemibfcaaGreatMrr14
set_option linter.unusedVariables false
set_option linter.unusedSimpArgs false
section
namespace Go.Proofs.YtbbjlfbemibfcaaGreat.cell
set_option maxRecDepth 20000
open Go.RowKit Go.Proofs.YtbbjlfbemibfcaaGreat
open Go.Proofs.YtbbjlfbemibfcaaGreat.frame (jh)
open Go.Proofs.YtbbjlfbemibfcaaGreat.rec (wf64)
def cc (x:Ce):Array Value:=#[.int .i64 x.p,.int .i64 x.b,.int .i64 x.s,.int .i64 x.n]
theorem Ed (x x2:Ce) (hf:x.fine) (hg:x2.fine) (W:World) :
  (Op.equalIn 10000 60 (.agg (cc x)) (.agg (cc x2))).run Tryz.prog W = .ok (decide (x=x2)) W:=by
 have Js:Tryz.prog.cellsOf 2=1:=by kernel_rfl
 have kl:∀ f:Ce,f.fine→Tryz.prog.keyLits 3 60 (cc f).toList=some [.int .i64 f.p,.int .i64 f.b,.int .i64 f.s,.int .i64 f.n]:=fun f ⟨h0,h1,h2,h3⟩=>by
  rw [qj2 2 _ Tryz.underlying60 (by kernel_rfl) (by kernel_rfl)]
  simp [cc,Js,Yl 1 _ Tryz.underlying2,wf64 h0,wf64 h1,wf64 h2,wf64 h3]
 refine qii (by kernel_rfl) 3 (by kernel_rfl) (by kernel_rfl) (kl x hf) (kl x2 hg) _ ?_ W
 obtain ⟨p,b,s,n⟩:=x
 obtain ⟨p',b',s',n'⟩:=x2
 simp
def xc (x:Ex):Array Value:=#[.int .i64 x.l,.int .i64 x.s,.int .i64 x.n]
theorem qps (x x2:Ex) (hf:x.fine) (hg:x2.fine) (W:World) :
  (Op.equalIn 10000 51 (.agg (xc x)) (.agg (xc x2))).run Tryz.prog W = .ok (decide (x=x2)) W:=by
 have Js:Tryz.prog.cellsOf 2=1:=by kernel_rfl
 have kl:∀ f:Ex,f.fine→Tryz.prog.keyLits 3 51 (xc f).toList=some [.int .i64 f.l,.int .i64 f.s,.int .i64 f.n]:=fun f ⟨h0,h1,h2⟩=>by
  rw [qj2 2 _ Tryz.underlying51 (by kernel_rfl) (by kernel_rfl)]
  simp [xc,Js,Yl 1 _ Tryz.underlying2,wf64 h0,wf64 h1,wf64 h2]
 refine qii (by kernel_rfl) 3 (by kernel_rfl) (by kernel_rfl) (kl x hf) (kl x2 hg) _ ?_ W
 obtain ⟨l,s,n⟩:=x
 obtain ⟨l',s',n'⟩:=x2
 simp
end Go.Proofs.YtbbjlfbemibfcaaGreat.cell
namespace Go.Proofs.YtbbjlfbemibfcaaGreat
open Go.RowKit
abbrev zc2:Type:=cell.Ce
abbrev zc3:Type:=cell.Ex
def gu:Rd zc2:=fun _ _ cs o=>cs=(cell.cc o).toList∧o.fine
theorem of_cell:Qk Tryz.prog 60 gu:=fun H enc w fuel cs x h=>by
 have hl:=qiu Tryz.underlying60 h
 rw [show Tryz.prog.cellsOf 60=4 by kernel_rfl] at hl
 obtain ⟨p,e0,h0⟩:=Fj Tryz.underlying60 h 0 _ rfl 1 (by kernel_rfl) (of_int Tryz.underlying2)
 obtain ⟨b,e1,h1⟩:=Fj Tryz.underlying60 h 1 _ rfl 1 (by kernel_rfl) (of_int Tryz.underlying2)
 obtain ⟨s,e2,h2⟩:=Fj Tryz.underlying60 h 2 _ rfl 1 (by kernel_rfl) (of_int Tryz.underlying2)
 obtain ⟨n,e3,h3⟩:=Fj Tryz.underlying60 h 3 _ rfl 1 (by kernel_rfl) (of_int Tryz.underlying2)
 match cs,hl with
 | [c0,c1,c2,c3],_ =>
  simp at e0 e1 e2 e3
  subst e0 e1 e2 e3
  exact ⟨⟨p,b,s,n⟩,rfl,qb2 h0,qb2 h1,qb2 h2,qb2 h3⟩
def je:Rd zc3:=fun _ _ cs o=>cs=(cell.xc o).toList∧o.fine
theorem q46:Qk Tryz.prog 51 je:=fun H enc w fuel cs x h=>by
 have hl:=qiu Tryz.underlying51 h
 rw [show Tryz.prog.cellsOf 51=3 by kernel_rfl] at hl
 obtain ⟨l,e0,h0⟩:=Fj Tryz.underlying51 h 0 _ rfl 1 (by kernel_rfl) (of_int Tryz.underlying2)
 obtain ⟨s,e1,h1⟩:=Fj Tryz.underlying51 h 1 _ rfl 1 (by kernel_rfl) (of_int Tryz.underlying2)
 obtain ⟨n,e2,h2⟩:=Fj Tryz.underlying51 h 2 _ rfl 1 (by kernel_rfl) (of_int Tryz.underlying2)
 match cs,hl with
 | [c0,c1,c2],_ =>
  simp at e0 e1 e2
  subst e0 e1 e2
  exact ⟨⟨l,s,n⟩,rfl,qb2 h0,qb2 h1,qb2 h2⟩
end Go.Proofs.YtbbjlfbemibfcaaGreat
end
section
namespace Go.Proofs.YtbbjlfbemibfcaaGreat
set_option maxRecDepth 20000
open Go.RowKit
theorem zn:qc2 gu:=fun _ _ _ _ _ _ h _ _=>h
abbrev Cls (w:World) (B:Nat) (A:Option Addr) (l:List cell.Ce):Prop:=ql gu 4 w (Lt B) A l
theorem Cls.below {w w' : World} {B:Nat} {A:Option Addr} {l:List cell.Ce} (h:Cls w B A l) (hb:Below B w w'):Cls w' B A l:=ql.keep zn h (qgr hb) (fun _ h=>h)
theorem Cls.more {w:World} {B B' : Nat} {A:Option Addr} {l:List cell.Ce} (h:Cls w B A l) (hb:B≤B'):Cls w B' A l:=ql.keep zn h (alike_refl _ _) (fun _ h=>Nat.lt_of_lt_of_le h hb)
theorem Cls.at_ {w:World} {B:Nat} {A:Option Addr} {l:List cell.Ce} (h:Cls w B A l) {j:Nat} (hj:j < l.length) :
  ∃ b off p bu s n,A=some ⟨b,off,none⟩∧b < B∧Hid (l[j]?=some ⟨p,bu,s,n⟩) ∧
   w.cell? ⟨b,off+j * 4,none⟩=some (.int .i64 p)∧w.cell? ⟨b,off+j * 4+1,none⟩=some (.int .i64 bu)∧w.cell? ⟨b,off+j * 4+2,none⟩=some (.int .i64 s) ∧
   w.cell? ⟨b,off+j * 4+3,none⟩=some (.int .i64 n)∧Hid ((⟨p,bu,s,n⟩:cell.Ce).fine):=by
 obtain ⟨b,off,e,hb,hc⟩:=h (by omega)
 obtain ⟨cs,hl,hcs,rfl,hf⟩:=hc j l[j] (List.getElem?_eq_getElem hj)
 exact ⟨b,off,_,_,_,_,e,hb,Lib.hid (List.getElem?_eq_getElem hj),hcs 0 _ rfl,hcs 1 _ rfl,hcs 2 _ rfl,hcs 3 _ rfl,Lib.hid hf⟩
theorem Cls.fine {w:World} {B:Nat} {A:Option Addr} {l:List cell.Ce} (h:Cls w B A l):∀ f ∈ l,f.fine:=by
 intro f hf
 obtain ⟨j,hj,rfl⟩:=List.getElem_of_mem hf
 obtain ⟨b,off,e,hb,hc⟩:=h (by omega)
 obtain ⟨cs,hl,hcs,_,hf⟩:=hc j l[j] (List.getElem?_eq_getElem hj)
 exact hf
theorem Cls.take {w:World} {B:Nat} {A:Option Addr} {l:List cell.Ce} (h:Cls w B A l) (m:Nat):Cls w B A (l.take m):=fun h0=>by
 obtain ⟨b,off,e,hb,hc⟩:=h (by rw [List.length_take] at h0;omega)
 refine ⟨b,off,e,hb,fun j x hj=>hc j x ?_⟩
 rw [List.getElem?_take] at hj
 split at hj
 ·exact hj
 ·cases hj
end Go.Proofs.YtbbjlfbemibfcaaGreat
end
section
namespace Go.Proofs.YtbbjlfbemibfcaaGreat.order
set_option maxRecDepth 20000
open Go.RowKit Go.Proofs.YtbbjlfbemibfcaaGreat
open Go.Proofs.YtbbjlfbemibfcaaGreat.frame (jh)
open Go.Proofs.YtbbjlfbemibfcaaGreat.rec (wf64)
def oc (o:Or):Array Value:=#[.int .i64 o.i,.int .i64 o.a,.int .i64 o.y,.int .i64 o.d,.int .i64 o.q,.int .i64 o.p,.int .i64 o.f,.int .i64 o.h,.int .i64 o.m,.int .i64 o.r,.int .i64 o.v,.bool o.g]
theorem qnz (x x2:Or) (hf:x.fine) (hg:x2.fine) (W:World) :
  (Op.equalIn 10000 54 (.agg (oc x)) (.agg (oc x2))).run Tryz.prog W = .ok (decide (x=x2)) W:=by
 have c1:Tryz.prog.cellsOf 2=1:=by kernel_rfl
 have c3:Tryz.prog.cellsOf 3=1:=by kernel_rfl
 have cb:Tryz.prog.cellsOf 4=1:=by kernel_rfl
 have kl:∀ f:Or,f.fine→Tryz.prog.keyLits 3 54 (oc f).toList=some [.int .i64 f.i,.int .i64 f.a,.int .i64 f.y,.int .i64 f.d,.int .i64 f.q,.int .i64 f.p,.int .i64 f.f,.int .i64 f.h,.int .i64 f.m,.int .i64 f.r,.int .i64 f.v,.bool f.g]:=fun f ⟨h0,h1,h2,h3,h4,h5,h6,h7,h8,h9,h10⟩=>by
  rw [qj2 2 _ Tryz.underlying54 (by kernel_rfl) (by kernel_rfl)]
  simp [oc,c1,c3,cb,Yl 1 _ Tryz.underlying2,Yl 1 _ Tryz.underlying3,qu6 1 _ Tryz.underlying4,wf64 h0,wf64 h1,wf64 h2,wf64 h3,wf64 h4,wf64 h5,wf64 h6,wf64 h7,wf64 h8,wf64 h9,wf64 h10]
 refine qii (by kernel_rfl) 3 (by kernel_rfl) (by kernel_rfl) (kl x hf) (kl x2 hg) _ ?_ W
 obtain ⟨i,a,y,d,q,p,f,h,m,r,v,g⟩:=x
 obtain ⟨i',a',y',d',q',p',f',h',m',r',v',g'⟩:=x2
 simp
end Go.Proofs.YtbbjlfbemibfcaaGreat.order
namespace Go.Proofs.YtbbjlfbemibfcaaGreat
open Go.RowKit
abbrev Ym:Type:=order.Or
def eu:Rd Ym:=fun _ _ cs o=>cs=(order.oc o).toList∧o.fine
theorem q1x:Qk Tryz.prog 54 eu:=fun H enc w fuel cs x h=>by
 have hl:=qiu Tryz.underlying54 h
 rw [show Tryz.prog.cellsOf 54=12 by kernel_rfl] at hl
 obtain ⟨i,e0,h0⟩:=Fj Tryz.underlying54 h 0 _ rfl 1 (by kernel_rfl) (of_int Tryz.underlying2)
 obtain ⟨a,e1,h1⟩:=Fj Tryz.underlying54 h 1 _ rfl 1 (by kernel_rfl) (of_int Tryz.underlying3)
 obtain ⟨y,e2,h2⟩:=Fj Tryz.underlying54 h 2 _ rfl 1 (by kernel_rfl) (of_int Tryz.underlying3)
 obtain ⟨d,e3,h3⟩:=Fj Tryz.underlying54 h 3 _ rfl 1 (by kernel_rfl) (of_int Tryz.underlying3)
 obtain ⟨q,e4,h4⟩:=Fj Tryz.underlying54 h 4 _ rfl 1 (by kernel_rfl) (of_int Tryz.underlying2)
 obtain ⟨p,e5,h5⟩:=Fj Tryz.underlying54 h 5 _ rfl 1 (by kernel_rfl) (of_int Tryz.underlying2)
 obtain ⟨f,e6,h6⟩:=Fj Tryz.underlying54 h 6 _ rfl 1 (by kernel_rfl) (of_int Tryz.underlying2)
 obtain ⟨ph,e7,h7⟩:=Fj Tryz.underlying54 h 7 _ rfl 1 (by kernel_rfl) (of_int Tryz.underlying3)
 obtain ⟨m,e8,h8⟩:=Fj Tryz.underlying54 h 8 _ rfl 1 (by kernel_rfl) (of_int Tryz.underlying2)
 obtain ⟨r,e9,h9⟩:=Fj Tryz.underlying54 h 9 _ rfl 1 (by kernel_rfl) (of_int Tryz.underlying2)
 obtain ⟨v,e10,h10⟩:=Fj Tryz.underlying54 h 10 _ rfl 1 (by kernel_rfl) (of_int Tryz.underlying2)
 obtain ⟨g,e11⟩:=Fj Tryz.underlying54 h 11 _ rfl 1 (by kernel_rfl) (of_bool Tryz.underlying4)
 match cs,hl with
 | [c0,c1,c2,c3,c4,c5,c6,c7,c8,c9,c10,c11],_ =>
  simp [rdBool] at e0 e1 e2 e3 e4 e5 e6 e7 e8 e9 e10 e11
  subst e0 e1 e2 e3 e4 e5 e6 e7 e8 e9 e10 e11
  exact ⟨⟨i,a,y,d,q,p,f,ph,m,r,v,g⟩,rfl,qb2 h0,qb2 h1,qb2 h2,qb2 h3,qb2 h4,qb2 h5,qb2 h6,qb2 h7,qb2 h8,qb2 h9,qb2 h10⟩
end Go.Proofs.YtbbjlfbemibfcaaGreat
end
section
namespace Go.Proofs.YtbbjlfbemibfcaaGreat
set_option maxRecDepth 20000
open Go.RowKit
theorem E9:qc2 eu:=fun _ _ _ _ _ _ h _ _=>h
theorem Fq:qc2 je:=fun _ _ _ _ _ _ h _ _=>h
abbrev Px (w:World) (B:Nat) (A:Option Addr) (l:List order.Or):Prop:=ql eu 12 w (Lt B) A l
abbrev Exs (w:World) (B:Nat) (A:Option Addr) (l:List cell.Ex):Prop:=ql je 3 w (Lt B) A l
theorem Px.below {w w' : World} {B:Nat} {A:Option Addr} {l:List order.Or} (h:Px w B A l) (hb:Below B w w'):Px w' B A l:=ql.keep E9 h (qgr hb) (fun _ h=>h)
theorem Exs.below {w w' : World} {B:Nat} {A:Option Addr} {l:List cell.Ex} (h:Exs w B A l) (hb:Below B w w'):Exs w' B A l:=ql.keep Fq h (qgr hb) (fun _ h=>h)
theorem Px.at_ {w:World} {B:Nat} {A:Option Addr} {l:List order.Or} (h:Px w B A l) {j:Nat} (hj:j < l.length) :
  ∃ b off i a y d q p f hh m r v g,A=some ⟨b,off,none⟩∧b < B∧Hid (l[j]?=some ⟨i,a,y,d,q,p,f,hh,m,r,v,g⟩)∧Hid ((⟨i,a,y,d,q,p,f,hh,m,r,v,g⟩:order.Or).fine) ∧
   Hid (∀ W,Below B w W→W.cell? ⟨b,off+j * 12,none⟩=some (.int .i64 i)∧W.cell? ⟨b,off+j * 12+1,none⟩=some (.int .i64 a)∧W.cell? ⟨b,off+j * 12+2,none⟩=some (.int .i64 y)∧W.cell? ⟨b,off+j * 12+3,none⟩=some (.int .i64 d)∧W.cell? ⟨b,off+j * 12+4,none⟩=some (.int .i64 q)∧W.cell? ⟨b,off+j * 12+5,none⟩=some (.int .i64 p)∧W.cell? ⟨b,off+j * 12+6,none⟩=some (.int .i64 f)∧W.cell? ⟨b,off+j * 12+7,none⟩=some (.int .i64 hh)∧W.cell? ⟨b,off+j * 12+8,none⟩=some (.int .i64 m)∧W.cell? ⟨b,off+j * 12+9,none⟩=some (.int .i64 r)∧W.cell? ⟨b,off+j * 12+10,none⟩=some (.int .i64 v)∧W.cell? ⟨b,off+j * 12+11,none⟩=some (.bool g)):=by
 obtain ⟨b,off,e,hb,hc⟩:=h (by omega)
 obtain ⟨cs,hl,hcs,rfl,hf⟩:=hc j l[j] (List.getElem?_eq_getElem hj)
 refine ⟨b,off,_,_,_,_,_,_,_,_,_,_,_,_,e,hb,Lib.hid (List.getElem?_eq_getElem hj),Lib.hid hf,Lib.hid (fun W hw=>?_)⟩
 have k:∀ o,W.cell? ⟨b,o,none⟩=w.cell? ⟨b,o,none⟩:=fun o=>hw.cell (p:=⟨b,o,none⟩) hb
 exact ⟨(k _).trans (hcs 0 _ rfl),(k _).trans (hcs 1 _ rfl),(k _).trans (hcs 2 _ rfl),(k _).trans (hcs 3 _ rfl),(k _).trans (hcs 4 _ rfl),(k _).trans (hcs 5 _ rfl),(k _).trans (hcs 6 _ rfl),(k _).trans (hcs 7 _ rfl),(k _).trans (hcs 8 _ rfl),(k _).trans (hcs 9 _ rfl),(k _).trans (hcs 10 _ rfl),(k _).trans (hcs 11 _ rfl)⟩
structure Yn (w:World) (B:Nat) (A1:Option Addr) (n1 c1:Nat) (A2:Option Addr) (n2 c2:Nat) (A3:Option Addr) (n3 c3:Nat) (A4:Option Addr) (n4 c4:Nat) (s:book.St):Prop where
 o:Px w B A1 s.os
 c:Cls w B A2 s.cs
 l:Exs w B A3 s.ls
 k:Ints .i64 w B A4 s.ps
 no:s.os.length=n1∧n1≤c1∧c1≤maxLen
 nc:s.cs.length=n2∧n2≤c2∧c2≤maxLen
 nl:s.ls.length=n3∧n3≤c3∧c3≤maxLen
 nk:s.ps.length=n4∧n4≤c4∧c4≤maxLen
 fine:frame.jh s.a∧frame.jh s.y∧frame.jh s.last∧frame.jh s.seq∧frame.jh s.ng
theorem Yn.below {w w' : World} {B:Nat} {A1:Option Addr} {n1 c1:Nat} {A2:Option Addr} {n2 c2:Nat} {A3:Option Addr} {n3 c3:Nat} {A4:Option Addr} {n4 c4:Nat} {s:book.St} (h:Yn w B A1 n1 c1 A2 n2 c2 A3 n3 c3 A4 n4 c4 s) (hb:Below B w w'):Yn w' B A1 n1 c1 A2 n2 c2 A3 n3 c3 A4 n4 c4 s :=
 ⟨h.o.below hb,h.c.below hb,h.l.below hb,h.k.below hb,h.no,h.nc,h.nl,h.nk,h.fine⟩
end Go.Proofs.YtbbjlfbemibfcaaGreat
end
