/-
  OrdMath, CellMath, CellMath2
-/
import Derived.Test.YtbbjlfbemibfcaaGreatMrt10
set_option linter.unusedVariables false
set_option linter.unusedSimpArgs false
section
namespace Go.Proofs.YtbbjlfbemibfcaaGreat.order
set_option maxRecDepth 20000
open Go.Proofs.YtbbjlfbemibfcaaGreat.frame (inR)
open Go.Proofs.YtbbjlfbemibfcaaGreat.rec (Rc mayTell mayOrder mayAcc mayAsk)
structure Or where
 (i a y d q p f h m r v:Int) (g:Bool)
 deriving DecidableEq
structure Nt where
 (z t o q p:Int)
 deriving DecidableEq
def Or.fine (o:Or):Prop:=inR o.i∧inR o.a∧inR o.y∧inR o.d∧inR o.q∧inR o.p∧inR o.f∧inR o.h∧inR o.m∧inR o.r∧inR o.v
def oz:Or:=⟨0,0,0,0,0,0,0,0,0,0,0,false⟩
def Nt.rc (n:Nt):Rc:=⟨6,n.o,0,0,0,n.q,n.p,0,0,0,false,n.z,n.t⟩
def noteOk (n:Nt):Bool:=rec.right n.rc
def Rightly (o:Or):Prop :=
 (1≤o.i∧o.i≤1000000000000∧0≤o.a∧o.a < 8∧0≤o.y∧o.y < 8∧1≤o.d∧o.d≤2∧1≤o.q∧1≤o.p)∧0≤o.f∧o.f≤o.q∧0≤o.v∧((o.m=0∧o.r=0)∨(1≤o.m∧1≤o.r)) ∧
 ((o.h=1∧o.m=0∧o.r=0∧o.f=0∧o.v=0)∨(o.h=2∧o.f≠o.q)∨(o.h=3∧o.m=0∧o.r=0))
instance (o:Or):Decidable (Rightly o):=by unfold Rightly;infer_instance
def right (o:Or):Bool:=decide (Rightly o)
def begin_ (r:Rc):Or × Int:=if r.k=1∧rec.right r=true then (⟨r.o,r.a,r.y,r.d,r.q,r.p,0,1,0,0,0,false⟩,0) else (oz,1)
def done (o:Or):Or:={ o with h:=3,m:=0,r:=0 }
def take (o:Or) (n:Nt):Or × Int :=
 if right o=false∨noteOk n=false∨n.o≠o.i then (o,1)
 else if o.h=1∧n.t=1 then ({ o with h:=2 },0)
 else if (o.h=1∧n.t=2)∨(o.h=2∧n.t=4) then (done o,0)
 else if o.h=2∧n.t=3∧n.q≤o.q - o.f then (if n.q < o.q - o.f then { o with f:=o.f+n.q } else done { o with f:=o.f+n.q },0)
 else if o.h=2∧0 < o.m∧n.t=6 then ({ o with m:=0,r:=0 },0)
 else if o.h=2∧0 < o.m∧n.t=5∧n.q=o.m∧n.p=o.r∧o.f < n.q then ({ o with q:=n.q,p:=n.p,m:=0,r:=0 },0)
 else (o,8)
def change (o:Or) (x z:Int):Or × Int :=
 if right o=false∨x < 1∨z < 1∨o.v=9223372036854775807 then (o,1)
 else if o.h≠2∨o.m≠0∨o.g=true then (o,8)
 else ({ o with m:=x,r:=z,v:=o.v+1 },0)
def stop (o:Or):Or × Int :=
 if right o=false then (o,1) else if o.g=true∨o.h=3 then (o,8) else ({ o with g:=true },0)
def open_ (o:Or):Int:=if right o=false∨o.h=3 then 0 else if o.q < o.m then o.m - o.f else o.q - o.f
def fits (x:Int):Bool:=decide (-9223372036854775808≤x∧x≤9223372036854775807)
def worth (o:Or):Int × Int :=
 if right o=false then (0,1) else if o.h=3 then (0,0)
 else if fits ((o.q - o.f) * o.p)=false then (0,3)
 else if o.f < o.m then (if fits ((o.m - o.f) * o.r)=false then (0,3) else if (o.q - o.f) * o.p < (o.m - o.f) * o.r then ((o.m - o.f) * o.r,0) else ((o.q - o.f) * o.p,0))
 else ((o.q - o.f) * o.p,0)
theorem right_iff {o:Or} : right o=true ↔ Rightly o:=by simp [right]
theorem right_no {o:Or} : right o=false ↔ ¬ Rightly o:=by simp [right]
theorem noteOk_iff {n:Nt} : noteOk n=true ↔ (1≤n.z∧n.z≤1000000000)∧(1≤n.o∧n.o≤1000000000000)∧mayTell n.t n.q n.p=true:=by
 unfold noteOk rec.right rec.may Nt.rc
 simp [rec.rd,rec.nums,mayOrder,and_assoc]
theorem tell_fill {q p:Int} (h:mayTell 3 q p=true):1≤q∧p=0:=by simpa [mayTell] using h
theorem mul_le {a b p:Int} (hp:0≤p) (h:a≤b):a * p≤b * p:=Int.mul_le_mul_of_nonneg_right h hp
theorem mul_nn {a p:Int} (ha:0≤a) (hp:0≤p):0≤a * p:=Int.mul_nonneg ha hp
theorem fits_less {x y:Int} (h0:0≤x) (h:x≤y) (hy:fits y=true):fits x=true:=by
 unfold fits at *;simp at *;omega
inductive Took (o:Or) (n:Nt):Or→Prop
 |ack:o.h=1→n.t=1→Took o n { o with h:=2 }
 |ends:(o.h=1∧n.t=2)∨(o.h=2∧n.t=4)→Took o n (done o)
 |fill:o.h=2→n.t=3→1≤n.q→n.q < o.q - o.f→Took o n { o with f:=o.f+n.q }
 |full:o.h=2→n.t=3→n.q=o.q - o.f→Took o n (done { o with f:=o.f+n.q })
 |off:o.h=2→0 < o.m→n.t=6→Took o n { o with m:=0,r:=0 }
 |new:o.h=2→0 < o.m→n.t=5→n.q=o.m→n.p=o.r→o.f < o.m→Took o n { o with q:=o.m,p:=o.r,m:=0,r:=0 }
theorem take_err {o:Or} {n:Nt} {p:Or} {e:Int} (h:take o n=(p,e)):e=0∨(p=o∧(e=1∨e=8)):=by
 unfold take at h
 repeat' split at h
 all_goals simp only [Prod.mk.injEq] at h;obtain ⟨rfl,rfl⟩:=h;simp
theorem take_ok {o:Or} {n:Nt} {p:Or} (h:take o n=(p,0)):Rightly o∧noteOk n=true∧n.o=o.i∧Took o n p:=by
 unfold take at h
 split at h
 ·simp at h
 rename_i h0
 have h1:right o=true∧noteOk n=true∧n.o=o.i:=by
  cases hr:right o<;>cases hn:noteOk n<;>simp [hr,hn] at h0 ⊢
  exact h0
 refine ⟨right_iff.1 h1.1,h1.2.1,h1.2.2,?_⟩
 have hn:=noteOk_iff.1 h1.2.1
 split at h
 ·rename_i hc;simp only [Prod.mk.injEq,and_true] at h;subst h;exact .ack hc.1 hc.2
 split at h
 ·rename_i hc;simp only [Prod.mk.injEq,and_true] at h;subst h;exact .ends hc
 split at h
 ·rename_i hc
  have h3:=hn.2.2
  rw [hc.2.1] at h3
  have h4:=tell_fill h3
  simp only [Prod.mk.injEq,and_true] at h
  split at h
  ·rename_i hd;subst h;exact .fill hc.1 hc.2.1 h4.1 hd
  ·rename_i hd;subst h;exact .full hc.1 hc.2.1 (by omega)
 split at h
 ·rename_i hc;simp only [Prod.mk.injEq,and_true] at h;subst h;exact .off hc.1 hc.2.1 hc.2.2
 split at h
 ·rename_i hc
  obtain ⟨c1,c2,c3,c4,c5,c6⟩:=hc
  simp only [Prod.mk.injEq,and_true] at h
  subst h
  rw [c4,c5]
  exact .new c1 c2 c3 c4 c5 (by omega)
 ·simp at h
theorem took_right {o:Or} {n:Nt} {p:Or} (hr:Rightly o) (h:Took o n p):Rightly p:=by
 obtain ⟨i,a,y,d,q,pr,f,ph,m,r,v,g⟩:=o
 unfold Rightly at hr ⊢
 cases h<;>simp only [done,true_and,and_true,true_or,or_true] at *<;>omega
theorem took_same {o:Or} {n:Nt} {p:Or} (hr:Rightly o) (h:Took o n p):o.h≠3∧o.h≤p.h∧p.i=o.i∧p.a=o.a∧p.y=o.y∧p.d=o.d∧o.f≤p.f∧p.v=o.v∧p.g=o.g:=by
 obtain ⟨i,a,y,d,q,pr,f,ph,m,r,v,g⟩:=o
 unfold Rightly at hr
 cases h<;>simp only [done,true_and,and_true,true_or,or_true] at *<;>omega
theorem took_open {o:Or} {n:Nt} {p:Or} (hr:Rightly o) (h:Took o n p):open_ p≤open_ o:=by
 have hp:=took_right hr h
 unfold open_
 rw [right_iff.2 hr,right_iff.2 hp]
 obtain ⟨i,a,y,d,q,pr,f,ph,m,r,v,g⟩:=o
 unfold Rightly at hr hp
 cases h<;>simp only [done,true_and,and_true,true_or,or_true] at *<;>simp<;>(repeat' split)<;>omega
theorem worth_done {o:Or} (hr:Rightly o) (hh:o.h=3):worth o=(0,0):=by
 unfold worth;rw [right_iff.2 hr,if_neg (by simp),if_pos hh]
theorem worth_ok {o:Or} {a:Int} (hr:Rightly o) (hh:o.h≠3):worth o=(a,0) ↔ fits ((o.q - o.f) * o.p)=true∧(o.f < o.m→fits ((o.m - o.f) * o.r)=true)∧a=if o.f < o.m∧(o.q - o.f) * o.p < (o.m - o.f) * o.r then (o.m - o.f) * o.r else (o.q - o.f) * o.p:=by
 unfold worth
 rw [right_iff.2 hr,if_neg (by simp),if_neg hh]
 generalize (o.q - o.f) * o.p=A
 generalize (o.m - o.f) * o.r=B
 cases hA:fits A
 ·simp
 ·by_cases hm:o.f < o.m
  ·cases hB:fits B
   ·simp [hm]
   ·by_cases hl:A < B<;>simp [hm,hl]<;>omega
  ·simp [hm];omega
theorem took_worth {o:Or} {n:Nt} {p:Or} {a:Int} (hr:Rightly o) (h:Took o n p) (hw:worth o=(a,0)):∃ b,worth p=(b,0)∧b≤a:=by
 have hp:=took_right hr h
 have hs:=took_same hr h
 obtain ⟨hA,hB,ha⟩:=(worth_ok hr hs.1).1 hw
 obtain ⟨i,a',y,d,q,pr,f,ph,m,r,v,g⟩:=o
 simp only at hA hB ha hs
 have hr':=hr
 unfold Rightly at hr'
 simp only at hr'
 have hA0:0≤(q - f) * pr:=mul_nn (by omega) (by omega)
 have hr0:0≤r:=by omega
 have hp0:0≤pr:=by omega
 have hBm:f < m→0≤(m - f) * r:=fun hh=>mul_nn (by omega) hr0
 have ha0:0≤a:=by rw [ha];split;exact hBm (by omega);exact hA0
 have haA:(q - f) * pr≤a:=by rw [ha];split<;>omega
 have haB:f < m→(m - f) * r≤a:=fun hh=>by rw [ha];split<;>omega
 cases h with
 |ack h1 h2 =>
  refine ⟨a,(worth_ok hp (by simp)).2 ⟨hA,hB,ha⟩,Int.le_refl _⟩
 |ends h1=>exact ⟨0,worth_done hp rfl,ha0⟩
 |full h1 h2 h3=>exact ⟨0,worth_done hp rfl,ha0⟩
 |fill h1 h2 h3 h4 =>
  simp only at h1 h4
  have e1:(q - (f+n.q)) * pr≤(q - f) * pr:=mul_le hp0 (by omega)
  have e2:0≤(q - (f+n.q)) * pr:=mul_nn (by omega) hp0
  have e3:(m - (f+n.q)) * r≤(m - f) * r:=mul_le hr0 (by omega)
  have e4:f+n.q < m→0≤(m - (f+n.q)) * r:=fun hh=>mul_nn (by omega) hr0
  refine ⟨_,(worth_ok hp (by simp;omega)).2 ⟨fits_less e2 e1 hA,fun hh=>fits_less (e4 hh) e3 (hB (by simp only at hh;omega)),rfl⟩,?_⟩
  simp only
  split
  ·have:=haB (by omega);omega
  ·omega
 |off h1 h2 h3 =>
  simp only at h1
  refine ⟨_,(worth_ok hp (by simp;omega)).2 ⟨hA,fun hh=>by simp only at hh;omega,rfl⟩,?_⟩
  simp only
  rw [if_neg (by omega)]
  exact haA
 |new h1 h2 h3 h4 h5 h6 =>
  simp only at h1 h6
  refine ⟨_,(worth_ok hp (by simp;omega)).2 ⟨hB h6,fun hh=>by simp only at hh;omega,rfl⟩,?_⟩
  simp only
  rw [if_neg (by omega)]
  exact haB h6
theorem id_in {o:Or} (hr:Rightly o):1≤o.i∧o.i≤1000000000000:=⟨hr.1.1,hr.1.2.1⟩
theorem change_err {o:Or} {x z:Int} {p:Or} {e:Int} (h:change o x z=(p,e)):e=0∨p=o∧(e=1∨e=8):=by
 unfold change at h
 repeat' split at h
 all_goals simp only [Prod.mk.injEq] at h;obtain ⟨rfl,rfl⟩:=h;simp
theorem change_ok {o:Or} {x z:Int} {p:Or} (h:change o x z=(p,0)):Rightly o∧1≤x∧1≤z∧o.v≠9223372036854775807∧o.h=2∧o.m=0∧o.r=0∧o.g=false∧p = { o with m:=x,r:=z,v:=o.v+1 }:=by
 unfold change at h
 split at h
 ·simp at h
 rename_i h1
 split at h
 ·simp at h
 rename_i h2
 simp only [Prod.mk.injEq,and_true] at h
 have hr:right o=true:=by cases hr:right o<;>simp [hr] at h1 ⊢
 have hg:o.g=false:=by cases hg:o.g<;>simp [hg] at h2 ⊢
 have hR:=right_iff.1 hr
 simp only [not_or,Int.not_lt] at h1 h2
 have hR':=hR
 unfold Rightly at hR'
 exact ⟨hR,h1.2.1,h1.2.2.1,h1.2.2.2,by omega,by omega,by omega,hg,h.symm⟩
theorem change_right {o:Or} {x z:Int} {p:Or} (h:change o x z=(p,0)):Rightly p:=by
 obtain ⟨hr,hx,hz,hv,hh,hm,hr0,hg,rfl⟩:=change_ok h
 unfold Rightly at hr ⊢
 simp only
 omega
theorem begin_right {r:Rc} {o:Or} (h:begin_ r=(o,0)):r.k=1∧rec.right r=true∧Rightly o∧o=⟨r.o,r.a,r.y,r.d,r.q,r.p,0,1,0,0,0,false⟩:=by
 unfold begin_ at h
 split at h
 ·rename_i hc
  simp only [Prod.mk.injEq,and_true] at h
  refine ⟨hc.1,hc.2,?_,h.symm⟩
  subst h
  have hm:=hc.2
  unfold rec.right rec.may at hm
  rw [Bool.and_eq_true,if_pos hc.1] at hm
  have hm:=hm.1
  simp [mayOrder,mayAcc,mayAsk] at hm
  unfold Rightly
  simp only [true_and,and_true,true_or,or_true]
  omega
 ·simp at h
theorem begin_fine {r:Rc} (hr:r.fine):(begin_ r).1.fine:=by
 unfold begin_
 obtain ⟨h1,h2,h3,h4,h5,h6,h7,h8,h9,h10,h11,h12⟩:=hr
 split
 ·exact ⟨h2,h3,h4,h5,h6,h7,rec.in0,rec.in1,rec.in0,rec.in0,rec.in0⟩
 ·simp [oz,Or.fine,rec.in0]
theorem took_fine {o:Or} {n:Nt} {p:Or} (hr:Rightly o) (hf:o.fine) (h:Took o n p):p.fine:=by
 have h3:inR 3:=by simp [inR]
 have h2:inR 2:=by simp [inR]
 obtain ⟨i,a,y,d,q,pr,f,ph,m,r,v,g⟩:=o
 obtain ⟨f1,f2,f3,f4,f5,f6,f7,f8,f9,f10,f11⟩:=hf
 simp only at f1 f2 f3 f4 f5 f6 f7 f8 f9 f10 f11
 unfold Rightly at hr
 simp only at hr
 cases h with
 |ack=>exact ⟨f1,f2,f3,f4,f5,f6,f7,h2,f9,f10,f11⟩
 |ends=>exact ⟨f1,f2,f3,f4,f5,f6,f7,h3,rec.in0,rec.in0,f11⟩
 |fill e1 e2 e3 e4=>simp only at e4;exact ⟨f1,f2,f3,f4,f5,f6,by simp only [inR] at *;omega,f8,f9,f10,f11⟩
 |full e1 e2 e3=>simp only at e3;exact ⟨f1,f2,f3,f4,f5,f6,by simp only [inR,done] at *;omega,h3,rec.in0,rec.in0,f11⟩
 |off=>exact ⟨f1,f2,f3,f4,f5,f6,f7,f8,rec.in0,rec.in0,f11⟩
 |new=>exact ⟨f1,f2,f3,f4,f9,f10,f7,f8,rec.in0,rec.in0,f11⟩
theorem take_fine {o:Or} {n:Nt} {p:Or} {e:Int} (hf:o.fine) (h:take o n=(p,e)):p.fine:=by
 rcases take_err h with rfl | ⟨rfl,_⟩
 ·obtain ⟨hr,_,_,ht⟩:=take_ok h
  exact took_fine hr hf ht
 ·exact hf
theorem change_fine {o:Or} {x z:Int} {p:Or} {e:Int} (hf:o.fine) (hx:inR x) (hz:inR z) (h:change o x z=(p,e)):p.fine:=by
 rcases change_err h with rfl | ⟨rfl,_⟩
 ·obtain ⟨hr,_,_,hv,_,_,_,_,rfl⟩:=change_ok h
  obtain ⟨f1,f2,f3,f4,f5,f6,f7,f8,f9,f10,f11⟩:=hf
  unfold Rightly at hr
  exact ⟨f1,f2,f3,f4,f5,f6,f7,f8,hx,hz,by simp only [inR] at *;omega⟩
 ·exact hf
theorem stop_fine {o:Or} {p:Or} {e:Int} (hf:o.fine) (h:stop o=(p,e)):p.fine:=by
 unfold stop at h
 repeat' split at h
 all_goals simp only [Prod.mk.injEq] at h;obtain ⟨rfl,rfl⟩:=h;exact hf
end Go.Proofs.YtbbjlfbemibfcaaGreat.order
end
section
namespace Go.Proofs.YtbbjlfbemibfcaaGreat.cell
set_option maxRecDepth 20000
open Go.Proofs.YtbbjlfbemibfcaaGreat.frame (inR)
open Go.Proofs.YtbbjlfbemibfcaaGreat.order (Or Nt open_ worth)
structure Ce where
 (p b s n:Int)
 deriving DecidableEq
structure Ex where
 (l s n:Int)
 deriving DecidableEq
def Ce.fine (c:Ce):Prop:=inR c.p∧inR c.b∧inR c.s∧inR c.n
def Ex.fine (x:Ex):Prop:=inR x.l∧inR x.s∧inR x.n
def Rightly (c:Ce):Prop := -9223372036854775808≤c.p+c.b∧c.p+c.b≤9223372036854775807 ∧ -9223372036854775808≤c.s - c.p∧c.s - c.p≤9223372036854775807∧0≤c.b∧0≤c.s∧0≤c.n
instance (c:Ce):Decidable (Rightly c):=by unfold Rightly;infer_instance
instance (c:Ce):Decidable c.fine:=by unfold Ce.fine inR;infer_instance
def right (c:Ce):Bool:=decide (Rightly c)
def of_ (c:Ce):Ex × Int:=if right c=true then (⟨c.p+c.b,c.s - c.p,c.n⟩,0) else (⟨0,0,0⟩,1)
def good (c d:Ce):Ce × Int:=if d.fine∧Rightly d then (d,0) else (c,3)
def turned (c:Ce) (d x w:Int):Ce:=if d=1 then ⟨c.p,c.b+x,c.s,c.n+w⟩ else ⟨c.p,c.b,c.s+x,c.n+w⟩
def come (c:Ce) (o:Or):Ce × Int :=
 if right c=false∨order.right o=false then (c,1) else if (worth o).2≠0 then (c,3) else good c (turned c o.d (open_ o) (worth o).1)
def go (c:Ce) (o:Or):Ce × Int :=
 if right c=false∨order.right o=false then (c,1) else if (worth o).2≠0 then (c,3) else good c (turned c o.d (-(open_ o)) (-(worth o).1))
def moved (c:Ce) (side qty:Int):Ce:=⟨if side=2 then c.p - qty else c.p+qty,c.b,c.s,c.n⟩
def did (c:Ce) (side qty:Int):Ce × Int :=
 if right c=false∨side < 1∨2 < side∨qty < 0 then (c,1) else good c (moved c side qty)
def covers (a b:Ex):Bool:=decide (b.l≤a.l∧b.s≤a.s∧b.n≤a.n)
theorem right_iff {c:Ce} : right c=true ↔ Rightly c:=by simp [right]
theorem right_no {c:Ce} : right c=false ↔ ¬ Rightly c:=by simp [right]
theorem covers_iff {a b:Ex} : covers a b=true ↔ b.l≤a.l∧b.s≤a.s∧b.n≤a.n:=by simp [covers]
theorem good_ok {c d e:Ce} : good c d=(e,0) ↔ e=d∧d.fine∧Rightly d:=by
 unfold good
 split
 ·rename_i h;simp [h];exact eq_comm
 ·rename_i h;simp;intro _ h1 h2;exact h ⟨h1,h2⟩
theorem good_cases (c d:Ce):(good c d=(d,0)∧d.fine∧Rightly d)∨(good c d=(c,3)∧¬ (d.fine∧Rightly d)):=by
 unfold good
 split
 ·rename_i h;exact .inl ⟨rfl,h⟩
 ·rename_i h;exact .inr ⟨rfl,h⟩
theorem come_cases (c:Ce) (o:Or):(come c o=(c,1)∧(right c=false∨order.right o=false))∨(come c o=(c,3))∨(come c o=(turned c o.d (open_ o) (worth o).1,0)∧Rightly c∧order.Rightly o∧(worth o).2=0∧(turned c o.d (open_ o) (worth o).1).fine∧Rightly (turned c o.d (open_ o) (worth o).1)):=by
 unfold come
 split
 ·rename_i h;exact .inl ⟨rfl,h⟩
 rename_i h
 simp only [not_or,Bool.not_eq_false] at h
 split
 ·exact .inr (.inl rfl)
 rename_i h2
 simp only [ne_eq,Decidable.not_not] at h2
 rcases good_cases c (turned c o.d (open_ o) (worth o).1) with ⟨e,h3⟩ | ⟨e,h3⟩
 ·exact .inr (.inr ⟨e,right_iff.1 h.1,order.right_iff.1 h.2,h2,h3.1,h3.2⟩)
 ·exact .inr (.inl e)
theorem come_ok {c d:Ce} {o:Or} (h:come c o=(d,0)):d=turned c o.d (open_ o) (worth o).1∧Rightly c∧order.Rightly o∧(worth o).2=0∧d.fine∧Rightly d:=by
 rcases come_cases c o with ⟨e,_⟩ | e | ⟨e,h1,h2,h3,h4,h5⟩
 ·rw [e] at h;simp at h
 ·rw [e] at h;simp at h
 ·rw [e] at h
  simp only [Prod.mk.injEq,and_true] at h
  subst h
  exact ⟨rfl,h1,h2,h3,h4,h5⟩
theorem good_fine {c d x:Ce} {e:Int} (hc:c.fine) (h:good c d=(x,e)):x.fine:=by
 rcases good_cases c d with ⟨k,h1,_⟩ | ⟨k,_⟩<;>rw [k] at h<;>simp only [Prod.mk.injEq] at h<;>obtain ⟨rfl,rfl⟩:=h
 ·exact h1
 ·exact hc
theorem come_fine {c d:Ce} {o:Or} {e:Int} (hc:c.fine) (h:come c o=(d,e)):d.fine:=by
 unfold come at h
 split at h
 ·simp only [Prod.mk.injEq] at h;obtain ⟨rfl,rfl⟩:=h;exact hc
 split at h
 ·simp only [Prod.mk.injEq] at h;obtain ⟨rfl,rfl⟩:=h;exact hc
 exact good_fine hc h
theorem go_fine {c d:Ce} {o:Or} {e:Int} (hc:c.fine) (h:go c o=(d,e)):d.fine:=by
 unfold go at h
 split at h
 ·simp only [Prod.mk.injEq] at h;obtain ⟨rfl,rfl⟩:=h;exact hc
 split at h
 ·simp only [Prod.mk.injEq] at h;obtain ⟨rfl,rfl⟩:=h;exact hc
 exact good_fine hc h
theorem did_fine {c d:Ce} {x y e:Int} (hc:c.fine) (h:did c x y=(d,e)):d.fine:=by
 unfold did at h
 split at h
 ·simp only [Prod.mk.injEq] at h;obtain ⟨rfl,rfl⟩:=h;exact hc
 exact good_fine hc h
theorem open_nn {o:Or} (h:order.Rightly o):0≤open_ o:=by
 unfold open_
 unfold order.Rightly at h
 split
 ·omega
 ·split<;>omega
theorem worth_nn {o:Or} (h:order.Rightly o):0≤(worth o).1:=by
 by_cases h3:o.h=3
 ·rw [order.worth_done h h3];decide
 unfold worth
 rw [order.right_iff.2 h,if_neg (by simp),if_neg h3]
 have h1:0≤(o.q - o.f) * o.p:=order.mul_nn (by unfold order.Rightly at h;omega) (by unfold order.Rightly at h;omega)
 split
 ·decide
 split
 ·rename_i hm
  have h2:0≤(o.m - o.f) * o.r:=order.mul_nn (by omega) (by unfold order.Rightly at h;omega)
  split
  ·decide
  split
  ·exact h2
  ·exact h1
 ·exact h1
theorem open_in {o:Or} (hf:o.fine):inR (open_ o):=by
 unfold open_
 cases hr:order.right o
 ·simp [inR]
 have h:=order.right_iff.1 hr
 unfold order.Rightly at h
 unfold order.Or.fine inR at hf
 unfold inR
 split
 ·omega
 ·split<;>omega
theorem worth_in (o:Or):inR (worth o).1:=by
 unfold worth
 split
 ·simp [inR]
 split
 ·simp [inR]
 split
 ·simp [inR]
 rename_i h1
 simp only [order.fits,Bool.not_eq_false,decide_eq_true_eq] at h1
 split
 ·split
  ·simp [inR]
  rename_i h2
  simp only [order.fits,Bool.not_eq_false,decide_eq_true_eq] at h2
  unfold inR
  split
  ·exact h2
  ·exact h1
 ·exact h1
theorem come_1 {c:Ce} {o:Or} (h:right c=false):come c o=(c,1):=by unfold come;simp [h]
end Go.Proofs.YtbbjlfbemibfcaaGreat.cell
end
section
namespace Go.Proofs.YtbbjlfbemibfcaaGreat.cell
set_option maxRecDepth 20000
end Go.Proofs.YtbbjlfbemibfcaaGreat.cell
end
