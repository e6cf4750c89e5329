/-
  OrdMath, CellMath, CellMath2
-/
import Derived.Test.YtcpahggkioagkaaMvf11
set_option linter.unusedVariables false
set_option linter.unusedSimpArgs false
section
namespace Go.Proofs.Ytcpahggkioagkaa.order
set_option maxRecDepth 20000
open Go.Proofs.Ytcpahggkioagkaa.frame (inR)
open Go.Proofs.Ytcpahggkioagkaa.rec (Rc mayTell mayOrder mayAcc mayAsk)
structure Or where
 (i a y d q p f h m r v:Int) (g:Bool)
 deriving DecidableEq
structure Nt where
 (z t o q p:Int)
 deriving DecidableEq
def Or.fine (o:Or):Prop:=inR o.i∧inR o.a∧inR o.y∧inR o.d∧inR o.q∧inR o.p∧inR o.f∧inR o.h∧inR o.m∧inR o.r∧inR o.v
def oz:Or:=⟨0,0,0,0,0,0,0,0,0,0,0,false⟩
def Nt.rc (n:Nt):Rc:=⟨6,n.o,0,0,0,n.q,n.p,0,0,0,false,n.z,n.t⟩
def noteOk (n:Nt):Bool:=rec.right n.rc
def Rightly (o:Or):Prop :=
 (1≤o.i∧o.i≤1000000000000∧0≤o.a∧o.a < 8∧0≤o.y∧o.y < 8∧1≤o.d∧o.d≤2∧1≤o.q∧1≤o.p)∧0≤o.f∧o.f≤o.q∧0≤o.v∧((o.m=0∧o.r=0)∨(1≤o.m∧1≤o.r)) ∧
 ((o.h=1∧o.m=0∧o.r=0∧o.f=0∧o.v=0)∨(o.h=2∧o.f≠o.q)∨(o.h=3∧o.m=0∧o.r=0))
instance (o:Or):Decidable (Rightly o):=by unfold Rightly;infer_instance
def right (o:Or):Bool:=decide (Rightly o)
def begin_ (r:Rc):Or × Int:=if r.k=1∧rec.right r=true then (⟨r.o,r.a,r.y,r.d,r.q,r.p,0,1,0,0,0,false⟩,0) else (oz,1)
def done (o:Or):Or:={ o with h:=3,m:=0,r:=0 }
def take (o:Or) (n:Nt):Or × Int :=
 if right o=false∨noteOk n=false∨n.o≠o.i then (o,1)
 else if o.h=1∧n.t=1 then ({ o with h:=2 },0)
 else if (o.h=1∧n.t=2)∨(o.h=2∧n.t=4) then (done o,0)
 else if o.h=2∧n.t=3∧n.q≤o.q - o.f then (if n.q < o.q - o.f then { o with f:=o.f+n.q } else done { o with f:=o.f+n.q },0)
 else if o.h=2∧0 < o.m∧n.t=6 then ({ o with m:=0,r:=0 },0)
 else if o.h=2∧0 < o.m∧n.t=5∧n.q=o.m∧n.p=o.r∧o.f < n.q then ({ o with q:=n.q,p:=n.p,m:=0,r:=0 },0)
 else (o,8)
def change (o:Or) (x z:Int):Or × Int :=
 if right o=false∨x < 1∨z < 1∨o.v=9223372036854775807 then (o,1)
 else if o.h≠2∨o.m≠0∨o.g=true then (o,8)
 else ({ o with m:=x,r:=z,v:=o.v+1 },0)
def open_ (o:Or):Int:=if right o=false∨o.h=3 then 0 else if o.q < o.m then o.m - o.f else o.q - o.f
def fits (x:Int):Bool:=decide (-9223372036854775808≤x∧x≤9223372036854775807)
def worth (o:Or):Int × Int :=
 if right o=false then (0,1) else if o.h=3 then (0,0)
 else if fits ((o.q - o.f) * o.p)=false then (0,3)
 else if o.f < o.m then (if fits ((o.m - o.f) * o.r)=false then (0,3) else if (o.q - o.f) * o.p < (o.m - o.f) * o.r then ((o.m - o.f) * o.r,0) else ((o.q - o.f) * o.p,0))
 else ((o.q - o.f) * o.p,0)
theorem right_iff {o:Or} : right o=true ↔ Rightly o:=by simp [right]
theorem right_no {o:Or} : right o=false ↔ ¬ Rightly o:=by simp [right]
theorem noteOk_iff {n:Nt} : noteOk n=true ↔ (1≤n.z∧n.z≤1000000000)∧(1≤n.o∧n.o≤1000000000000)∧mayTell n.t n.q n.p=true:=by
 unfold noteOk rec.right rec.may Nt.rc
 simp [rec.rd,rec.nums,mayOrder,and_assoc]
theorem tell_fill {q p:Int} (h:mayTell 3 q p=true):1≤q∧p=0:=by simpa [mayTell] using h
inductive Took (o:Or) (n:Nt):Or→Prop
 |ack:o.h=1→n.t=1→Took o n { o with h:=2 }
 |ends:(o.h=1∧n.t=2)∨(o.h=2∧n.t=4)→Took o n (done o)
 |fill:o.h=2→n.t=3→1≤n.q→n.q < o.q - o.f→Took o n { o with f:=o.f+n.q }
 |full:o.h=2→n.t=3→n.q=o.q - o.f→Took o n (done { o with f:=o.f+n.q })
 |off:o.h=2→0 < o.m→n.t=6→Took o n { o with m:=0,r:=0 }
 |new:o.h=2→0 < o.m→n.t=5→n.q=o.m→n.p=o.r→o.f < o.m→Took o n { o with q:=o.m,p:=o.r,m:=0,r:=0 }
theorem take_err {o:Or} {n:Nt} {p:Or} {e:Int} (h:take o n=(p,e)):e=0∨(p=o∧(e=1∨e=8)):=by
 unfold take at h
 repeat' split at h
 all_goals simp only [Prod.mk.injEq] at h;obtain ⟨rfl,rfl⟩:=h;simp
theorem take_ok {o:Or} {n:Nt} {p:Or} (h:take o n=(p,0)):Rightly o∧noteOk n=true∧n.o=o.i∧Took o n p:=by
 unfold take at h
 split at h
 ·simp at h
 rename_i h0
 have h1:right o=true∧noteOk n=true∧n.o=o.i:=by
  cases hr:right o<;>cases hn:noteOk n<;>simp [hr,hn] at h0 ⊢
  exact h0
 refine ⟨right_iff.1 h1.1,h1.2.1,h1.2.2,?_⟩
 have hn:=noteOk_iff.1 h1.2.1
 split at h
 ·rename_i hc;simp only [Prod.mk.injEq,and_true] at h;subst h;exact .ack hc.1 hc.2
 split at h
 ·rename_i hc;simp only [Prod.mk.injEq,and_true] at h;subst h;exact .ends hc
 split at h
 ·rename_i hc
  have h3:=hn.2.2
  rw [hc.2.1] at h3
  have h4:=tell_fill h3
  simp only [Prod.mk.injEq,and_true] at h
  split at h
  ·rename_i hd;subst h;exact .fill hc.1 hc.2.1 h4.1 hd
  ·rename_i hd;subst h;exact .full hc.1 hc.2.1 (by omega)
 split at h
 ·rename_i hc;simp only [Prod.mk.injEq,and_true] at h;subst h;exact .off hc.1 hc.2.1 hc.2.2
 split at h
 ·rename_i hc
  obtain ⟨c1,c2,c3,c4,c5,c6⟩:=hc
  simp only [Prod.mk.injEq,and_true] at h
  subst h
  rw [c4,c5]
  exact .new c1 c2 c3 c4 c5 (by omega)
 ·simp at h
theorem note_is {z t o q p:Int} (hz:1≤z∧z≤1000000000) (ho:1≤o∧o≤1000000000000) (ht:mayTell t q p=true):noteOk ⟨z,t,o,q,p⟩=true:=noteOk_iff.2 ⟨hz,ho,ht⟩
theorem id_in {o:Or} (hr:Rightly o):1≤o.i∧o.i≤1000000000000:=⟨hr.1.1,hr.1.2.1⟩
theorem take_own {o:Or} {n:Nt} (hr:Rightly o) (hn:noteOk n=true) (hi:n.o=o.i):take o n =
  if o.h=1∧n.t=1 then ({ o with h:=2 },0)
  else if (o.h=1∧n.t=2)∨(o.h=2∧n.t=4) then (done o,0)
  else if o.h=2∧n.t=3∧n.q≤o.q - o.f then (if n.q < o.q - o.f then { o with f:=o.f+n.q } else done { o with f:=o.f+n.q },0)
  else if o.h=2∧0 < o.m∧n.t=6 then ({ o with m:=0,r:=0 },0)
  else if o.h=2∧0 < o.m∧n.t=5∧n.q=o.m∧n.p=o.r∧o.f < n.q then ({ o with q:=n.q,p:=n.p,m:=0,r:=0 },0)
  else (o,8):=by
 conv=>lhs;unfold take
 rw [if_neg (by rw [right_iff.2 hr,hn];simp [hi])]
theorem take_fill {o:Or} {z x:Int} (hr:Rightly o) (hh:o.h=2) (hz:1≤z∧z≤1000000000) (hx:1≤x):take o ⟨z,3,o.i,x,0⟩=if x≤o.q - o.f then (if x < o.q - o.f then { o with f:=o.f+x } else done { o with f:=o.f+x },0) else (o,8):=by
 rw [take_own hr (note_is hz (id_in hr) (by simp [mayTell];omega)) rfl]
 simp only [hh]
 by_cases hc:x≤o.q - o.f
 ·simp [hc]
 ·simp [hc]
theorem begin_fine {r:Rc} (hr:r.fine):(begin_ r).1.fine:=by
 unfold begin_
 obtain ⟨h1,h2,h3,h4,h5,h6,h7,h8,h9,h10,h11,h12⟩:=hr
 split
 ·exact ⟨h2,h3,h4,h5,h6,h7,rec.in0,rec.in1,rec.in0,rec.in0,rec.in0⟩
 ·simp [oz,Or.fine,rec.in0]
theorem took_fine {o:Or} {n:Nt} {p:Or} (hr:Rightly o) (hf:o.fine) (h:Took o n p):p.fine:=by
 have h3:inR 3:=by simp [inR]
 have h2:inR 2:=by simp [inR]
 obtain ⟨i,a,y,d,q,pr,f,ph,m,r,v,g⟩:=o
 obtain ⟨f1,f2,f3,f4,f5,f6,f7,f8,f9,f10,f11⟩:=hf
 simp only at f1 f2 f3 f4 f5 f6 f7 f8 f9 f10 f11
 unfold Rightly at hr
 simp only at hr
 cases h with
 |ack=>exact ⟨f1,f2,f3,f4,f5,f6,f7,h2,f9,f10,f11⟩
 |ends=>exact ⟨f1,f2,f3,f4,f5,f6,f7,h3,rec.in0,rec.in0,f11⟩
 |fill e1 e2 e3 e4=>simp only at e4;exact ⟨f1,f2,f3,f4,f5,f6,by simp only [inR] at *;omega,f8,f9,f10,f11⟩
 |full e1 e2 e3=>simp only at e3;exact ⟨f1,f2,f3,f4,f5,f6,by simp only [inR,done] at *;omega,h3,rec.in0,rec.in0,f11⟩
 |off=>exact ⟨f1,f2,f3,f4,f5,f6,f7,f8,rec.in0,rec.in0,f11⟩
 |new=>exact ⟨f1,f2,f3,f4,f9,f10,f7,f8,rec.in0,rec.in0,f11⟩
theorem take_fine {o:Or} {n:Nt} {p:Or} {e:Int} (hf:o.fine) (h:take o n=(p,e)):p.fine:=by
 rcases take_err h with rfl | ⟨rfl,_⟩
 ·obtain ⟨hr,_,_,ht⟩:=take_ok h
  exact took_fine hr hf ht
 ·exact hf
end Go.Proofs.Ytcpahggkioagkaa.order
end
section
namespace Go.Proofs.Ytcpahggkioagkaa.cell
set_option maxRecDepth 20000
open Go.Proofs.Ytcpahggkioagkaa.frame (inR)
open Go.Proofs.Ytcpahggkioagkaa.order (Or Nt open_ worth)
structure Ce where
 (p b s n:Int)
 deriving DecidableEq
structure Ex where
 (l s n:Int)
 deriving DecidableEq
def Ce.fine (c:Ce):Prop:=inR c.p∧inR c.b∧inR c.s∧inR c.n
def Ex.fine (x:Ex):Prop:=inR x.l∧inR x.s∧inR x.n
def Rightly (c:Ce):Prop := -9223372036854775808≤c.p+c.b∧c.p+c.b≤9223372036854775807 ∧ -9223372036854775808≤c.s - c.p∧c.s - c.p≤9223372036854775807∧0≤c.b∧0≤c.s∧0≤c.n
instance (c:Ce):Decidable (Rightly c):=by unfold Rightly;infer_instance
instance (c:Ce):Decidable c.fine:=by unfold Ce.fine inR;infer_instance
def right (c:Ce):Bool:=decide (Rightly c)
def of_ (c:Ce):Ex × Int:=if right c=true then (⟨c.p+c.b,c.s - c.p,c.n⟩,0) else (⟨0,0,0⟩,1)
def good (c d:Ce):Ce × Int:=if d.fine∧Rightly d then (d,0) else (c,3)
def turned (c:Ce) (d x w:Int):Ce:=if d=1 then ⟨c.p,c.b+x,c.s,c.n+w⟩ else ⟨c.p,c.b,c.s+x,c.n+w⟩
def go (c:Ce) (o:Or):Ce × Int :=
 if right c=false∨order.right o=false then (c,1) else if (worth o).2≠0 then (c,3) else good c (turned c o.d (-(open_ o)) (-(worth o).1))
def covers (a b:Ex):Bool:=decide (b.l≤a.l∧b.s≤a.s∧b.n≤a.n)
theorem right_iff {c:Ce} : right c=true ↔ Rightly c:=by simp [right]
theorem right_no {c:Ce} : right c=false ↔ ¬ Rightly c:=by simp [right]
theorem covers_iff {a b:Ex} : covers a b=true ↔ b.l≤a.l∧b.s≤a.s∧b.n≤a.n:=by simp [covers]
end Go.Proofs.Ytcpahggkioagkaa.cell
end
section
namespace Go.Proofs.Ytcpahggkioagkaa.cell
set_option maxRecDepth 20000
end Go.Proofs.Ytcpahggkioagkaa.cell
end
