/-
  CellEq, Cls, OrdRd, StMem
-/
import Derived.Test.YtcpahggkioagkaaRows
import Derived.Test.YtcpahggkioagkaaMvf12
import Derived.Test.YtcpahggkioagkaaMvf13
import Derived.Test.YtcpahggkioagkaaMvf05
import Derived.Test.YtcpahggkioagkaaMvf04
import Derived.Test.YtcpahggkioagkaaMvf15
set_option linter.unusedVariables false
set_option linter.unusedSimpArgs false
section
namespace Go.Proofs.Ytcpahggkioagkaa.cell
set_option maxRecDepth 20000
open Go.RowKit Go.Proofs.Ytcpahggkioagkaa
open Go.Proofs.Ytcpahggkioagkaa.frame (inR)
open Go.Proofs.Ytcpahggkioagkaa.rec (wf64)
def cc (x:Ce):Array Value:=#[.int .i64 x.p,.int .i64 x.b,.int .i64 x.s,.int .i64 x.n]
def xc (x:Ex):Array Value:=#[.int .i64 x.l,.int .i64 x.s,.int .i64 x.n]
end Go.Proofs.Ytcpahggkioagkaa.cell
namespace Go.Proofs.Ytcpahggkioagkaa
open Go.RowKit
abbrev CellD:Type:=cell.Ce
abbrev ExpoD:Type:=cell.Ex
def rdCell:Rd CellD:=fun _ _ cs o=>cs=(cell.cc o).toList∧o.fine
def rdExpo:Rd ExpoD:=fun _ _ cs o=>cs=(cell.xc o).toList∧o.fine
end Go.Proofs.Ytcpahggkioagkaa
end
section
namespace Go.Proofs.Ytcpahggkioagkaa
set_option maxRecDepth 20000
open Go.RowKit
theorem keeps_cell:Keeps rdCell:=fun _ _ _ _ _ _ h _ _=>h
abbrev Cls (w:World) (B:Nat) (A:Option Addr) (l:List cell.Ce):Prop:=Elems rdCell 4 w (Lt B) A l
theorem Cls.below {w w' : World} {B:Nat} {A:Option Addr} {l:List cell.Ce} (h:Cls w B A l) (hb:Below B w w'):Cls w' B A l:=Elems.keep keeps_cell h (below_alike hb) (fun _ h=>h)
theorem Cls.more {w:World} {B B' : Nat} {A:Option Addr} {l:List cell.Ce} (h:Cls w B A l) (hb:B≤B'):Cls w B' A l:=Elems.keep keeps_cell h (alike_refl _ _) (fun _ h=>Nat.lt_of_lt_of_le h hb)
theorem Cls.at_ {w:World} {B:Nat} {A:Option Addr} {l:List cell.Ce} (h:Cls w B A l) {j:Nat} (hj:j < l.length) :
  ∃ b off p bu s n,A=some ⟨b,off,none⟩∧b < B∧Hid (l[j]?=some ⟨p,bu,s,n⟩) ∧
   w.cell? ⟨b,off+j * 4,none⟩=some (.int .i64 p)∧w.cell? ⟨b,off+j * 4+1,none⟩=some (.int .i64 bu)∧w.cell? ⟨b,off+j * 4+2,none⟩=some (.int .i64 s) ∧
   w.cell? ⟨b,off+j * 4+3,none⟩=some (.int .i64 n)∧Hid ((⟨p,bu,s,n⟩:cell.Ce).fine):=by
 obtain ⟨b,off,e,hb,hc⟩:=h (by omega)
 obtain ⟨cs,hl,hcs,rfl,hf⟩:=hc j l[j] (List.getElem?_eq_getElem hj)
 exact ⟨b,off,_,_,_,_,e,hb,Lib.hid (List.getElem?_eq_getElem hj),hcs 0 _ rfl,hcs 1 _ rfl,hcs 2 _ rfl,hcs 3 _ rfl,Lib.hid hf⟩
theorem Cls.fine {w:World} {B:Nat} {A:Option Addr} {l:List cell.Ce} (h:Cls w B A l):∀ f ∈ l,f.fine:=by
 intro f hf
 obtain ⟨j,hj,rfl⟩:=List.getElem_of_mem hf
 obtain ⟨b,off,e,hb,hc⟩:=h (by omega)
 obtain ⟨cs,hl,hcs,_,hf⟩:=hc j l[j] (List.getElem?_eq_getElem hj)
 exact hf
theorem Cls.take {w:World} {B:Nat} {A:Option Addr} {l:List cell.Ce} (h:Cls w B A l) (m:Nat):Cls w B A (l.take m):=fun h0=>by
 obtain ⟨b,off,e,hb,hc⟩:=h (by rw [List.length_take] at h0;omega)
 refine ⟨b,off,e,hb,fun j x hj=>hc j x ?_⟩
 rw [List.getElem?_take] at hj
 split at hj
 ·exact hj
 ·cases hj
end Go.Proofs.Ytcpahggkioagkaa
end
section
namespace Go.Proofs.Ytcpahggkioagkaa.order
set_option maxRecDepth 20000
open Go.RowKit Go.Proofs.Ytcpahggkioagkaa
open Go.Proofs.Ytcpahggkioagkaa.frame (inR)
open Go.Proofs.Ytcpahggkioagkaa.rec (wf64)
def oc (o:Or):Array Value:=#[.int .i64 o.i,.int .i64 o.a,.int .i64 o.y,.int .i64 o.d,.int .i64 o.q,.int .i64 o.p,.int .i64 o.f,.int .i64 o.h,.int .i64 o.m,.int .i64 o.r,.int .i64 o.v,.bool o.g]
end Go.Proofs.Ytcpahggkioagkaa.order
namespace Go.Proofs.Ytcpahggkioagkaa
open Go.RowKit
abbrev OrderD:Type:=order.Or
def rdOrder:Rd OrderD:=fun _ _ cs o=>cs=(order.oc o).toList∧o.fine
end Go.Proofs.Ytcpahggkioagkaa
end
section
namespace Go.Proofs.Ytcpahggkioagkaa
set_option maxRecDepth 20000
open Go.RowKit
theorem keeps_order:Keeps rdOrder:=fun _ _ _ _ _ _ h _ _=>h
theorem keeps_expo:Keeps rdExpo:=fun _ _ _ _ _ _ h _ _=>h
abbrev Ords (w:World) (B:Nat) (A:Option Addr) (l:List order.Or):Prop:=Elems rdOrder 12 w (Lt B) A l
abbrev Exs (w:World) (B:Nat) (A:Option Addr) (l:List cell.Ex):Prop:=Elems rdExpo 3 w (Lt B) A l
theorem Ords.below {w w' : World} {B:Nat} {A:Option Addr} {l:List order.Or} (h:Ords w B A l) (hb:Below B w w'):Ords w' B A l:=Elems.keep keeps_order h (below_alike hb) (fun _ h=>h)
theorem Exs.below {w w' : World} {B:Nat} {A:Option Addr} {l:List cell.Ex} (h:Exs w B A l) (hb:Below B w w'):Exs w' B A l:=Elems.keep keeps_expo h (below_alike hb) (fun _ h=>h)
theorem Ords.at_ {w:World} {B:Nat} {A:Option Addr} {l:List order.Or} (h:Ords w B A l) {j:Nat} (hj:j < l.length) :
  ∃ b off i a y d q p f hh m r v g,A=some ⟨b,off,none⟩∧b < B∧Hid (l[j]?=some ⟨i,a,y,d,q,p,f,hh,m,r,v,g⟩)∧Hid ((⟨i,a,y,d,q,p,f,hh,m,r,v,g⟩:order.Or).fine) ∧
   Hid (∀ W,Below B w W→W.cell? ⟨b,off+j * 12,none⟩=some (.int .i64 i)∧W.cell? ⟨b,off+j * 12+1,none⟩=some (.int .i64 a)∧W.cell? ⟨b,off+j * 12+2,none⟩=some (.int .i64 y)∧W.cell? ⟨b,off+j * 12+3,none⟩=some (.int .i64 d)∧W.cell? ⟨b,off+j * 12+4,none⟩=some (.int .i64 q)∧W.cell? ⟨b,off+j * 12+5,none⟩=some (.int .i64 p)∧W.cell? ⟨b,off+j * 12+6,none⟩=some (.int .i64 f)∧W.cell? ⟨b,off+j * 12+7,none⟩=some (.int .i64 hh)∧W.cell? ⟨b,off+j * 12+8,none⟩=some (.int .i64 m)∧W.cell? ⟨b,off+j * 12+9,none⟩=some (.int .i64 r)∧W.cell? ⟨b,off+j * 12+10,none⟩=some (.int .i64 v)∧W.cell? ⟨b,off+j * 12+11,none⟩=some (.bool g)):=by
 obtain ⟨b,off,e,hb,hc⟩:=h (by omega)
 obtain ⟨cs,hl,hcs,rfl,hf⟩:=hc j l[j] (List.getElem?_eq_getElem hj)
 refine ⟨b,off,_,_,_,_,_,_,_,_,_,_,_,_,e,hb,Lib.hid (List.getElem?_eq_getElem hj),Lib.hid hf,Lib.hid (fun W hw=>?_)⟩
 have k:∀ o,W.cell? ⟨b,o,none⟩=w.cell? ⟨b,o,none⟩:=fun o=>hw.cell (p:=⟨b,o,none⟩) hb
 exact ⟨(k _).trans (hcs 0 _ rfl),(k _).trans (hcs 1 _ rfl),(k _).trans (hcs 2 _ rfl),(k _).trans (hcs 3 _ rfl),(k _).trans (hcs 4 _ rfl),(k _).trans (hcs 5 _ rfl),(k _).trans (hcs 6 _ rfl),(k _).trans (hcs 7 _ rfl),(k _).trans (hcs 8 _ rfl),(k _).trans (hcs 9 _ rfl),(k _).trans (hcs 10 _ rfl),(k _).trans (hcs 11 _ rfl)⟩
structure InSt (w:World) (B:Nat) (A1:Option Addr) (n1 c1:Nat) (A2:Option Addr) (n2 c2:Nat) (A3:Option Addr) (n3 c3:Nat) (A4:Option Addr) (n4 c4:Nat) (s:book.St):Prop where
 o:Ords w B A1 s.os
 c:Cls w B A2 s.cs
 l:Exs w B A3 s.ls
 k:Ints .i64 w B A4 s.ps
 no:s.os.length=n1∧n1≤c1∧c1≤maxLen
 nc:s.cs.length=n2∧n2≤c2∧c2≤maxLen
 nl:s.ls.length=n3∧n3≤c3∧c3≤maxLen
 nk:s.ps.length=n4∧n4≤c4∧c4≤maxLen
 fine:frame.inR s.a∧frame.inR s.y∧frame.inR s.last∧frame.inR s.seq∧frame.inR s.lsn
theorem InSt.below {w w' : World} {B:Nat} {A1:Option Addr} {n1 c1:Nat} {A2:Option Addr} {n2 c2:Nat} {A3:Option Addr} {n3 c3:Nat} {A4:Option Addr} {n4 c4:Nat} {s:book.St} (h:InSt w B A1 n1 c1 A2 n2 c2 A3 n3 c3 A4 n4 c4 s) (hb:Below B w w'):InSt w' B A1 n1 c1 A2 n2 c2 A3 n3 c3 A4 n4 c4 s :=
 ⟨h.o.below hb,h.c.below hb,h.l.below hb,h.k.below hb,h.no,h.nc,h.nl,h.nk,h.fine⟩
end Go.Proofs.Ytcpahggkioagkaa
end
