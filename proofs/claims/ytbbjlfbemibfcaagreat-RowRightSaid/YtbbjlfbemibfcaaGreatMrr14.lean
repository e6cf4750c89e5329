/-
  zc4, zc5, zfv, zc6, Z9, zao, zaq, zar, zas, ziz, zi0, zi1, zi2, Tot
-/
import Derived.Test.YtbbjlfbemibfcaaGreatRows
import Derived.Test.YtbbjlfbemibfcaaGreatMrr01
import Derived.WalkKit
import Derived.WalkSpells
import Derived.WalkLawsBesides
import Derived.Test.YtbbjlfbemibfcaaGreatMrr10
set_option linter.unusedVariables false
set_option linter.unusedSimpArgs false
section
namespace Go.Proofs.YtbbjlfbemibfcaaGreat.num
set_option maxRecDepth 20000
open Go.RowKit
theorem qxc (x:Int):∃ k:Int,wrap64 x=x+18446744073709551616 * k:=by
 refine ⟨(wrap64 x - x) / 18446744073709551616,?_⟩
 unfold wrap64;omega
theorem qpt (x:Int):jq (wrap64 x):=by unfold wrap64 jq;omega
theorem qyp (a b:Int) (ha:jq a) (hb:jq b) (hz:a≠0) (hy:b≠0) (h:¬ jq (a * b))
  (h1:wrap64 ((wrap64 (a * b)).tdiv a)=b):¬ wrap64 ((wrap64 (a * b)).tdiv b)=a:=by
 have hp:=qpt (a * b)
 obtain ⟨k,hk⟩:=qxc (a * b)
 have hne:wrap64 (a * b)≠a * b:=fun e=>h (e▸hp)
 generalize wrap64 (a * b)=p at *
 have hq:∀ c,jq c→c≠0→jq (p.tdiv c)∨(c = -1∧p = -9223372036854775808):=by
  intro c hc hc0
  have h2:(p.tdiv c).natAbs=p.natAbs / c.natAbs:=Int.natAbs_tdiv p c
  have h3:=Nat.div_le_self p.natAbs c.natAbs
  by_cases hm:p = -9223372036854775808
  ·by_cases hc1:c = -1
   ·exact Or.inr ⟨hc1,hm⟩
   ·left
    by_cases hc2:c=1
    ·subst hc2;simpa using hp
    ·have h4:p.natAbs / c.natAbs≤p.natAbs / 2:=Nat.div_le_div_left (by omega) (by omega)
     unfold jq at *;omega
  ·left;unfold jq at *;omega
 have key:∀ c d:Int,c≠0→jq c→p.tdiv c=d→c * d=a * b→False:=by
  intro c d hc hci hd he
  have h2:=Int.mul_tdiv_add_tmod p c
  rw [hd,he] at h2
  have h3:(p.tmod c).natAbs=p.natAbs % c.natAbs:=Int.natAbs_tmod p c
  have h4:=Nat.mod_lt p.natAbs (show 0 < c.natAbs by omega)
  have hk0:k≠0:=by intro hk0;apply hne;rw [hk,hk0];omega
  unfold jq at hci
  omega
 have wr:∀ x,jq x→wrap64 x=x:=by intro x hx;unfold jq at hx;unfold wrap64;omega
 intro h2
 rcases hq a ha hz with q1 | ⟨ea,ep⟩
 ·rw [wr _ q1] at h1
  exact key a b hz ha h1 rfl
 ·rcases hq b hb hy with q2 | ⟨eb,_⟩
  ·rw [wr _ q2] at h2
   exact key b a hy hb h2 (Int.mul_comm _ _)
  ·subst ea eb;exact h (by unfold jq;omega)
end Go.Proofs.YtbbjlfbemibfcaaGreat.num
end
section
namespace Go.Proofs.YtbbjlfbemibfcaaGreat.num
set_option maxRecDepth 20000
open Go.RowKit
def tot (s:Int):List Int→Option Int
 | []=>some s
 |x :: r=>if jq (s+x) then tot (s+x) r else none
def Vh (o:Option Int):Int:=o.getD 0
def Pz (o:Option Int):Int:=if o.isSome then 0 else 3
theorem drop_at {xs:List Int} {k:Nat} {x:Int} (h:xs[k]?=some x):xs.drop k=x :: xs.drop (k+1):=by
 obtain ⟨hk,rfl⟩:=List.getElem?_eq_some_iff.1 h
 rw [List.drop_eq_getElem_cons hk]
theorem qu7 {xs:List Int} {k:Nat} {x:Int} (s:Int) (h:xs[k]?=some x) (hi:jq (s+x)):tot s (xs.drop k)=tot (s+x) (xs.drop (k+1)):=by
 rw [drop_at h];unfold tot;rw [if_pos hi];cases xs.drop (k+1)<;>rfl
theorem qyq {xs:List Int} {k:Nat} {x:Int} (s:Int) (h:xs[k]?=some x) (hi:¬ jq (s+x)):tot s (xs.drop k)=none:=by
 rw [drop_at h];unfold tot;rw [if_neg hi]
theorem qow (s:Int) (xs:List Int) (hs:0≤s) (hi:jq s) (hx:∀ x ∈ xs,0≤x) :
  0≤xs.sum∧tot s xs=if s+xs.sum≤9223372036854775807 then some (s+xs.sum) else none:=by
 induction xs generalizing s with
 |nil=>unfold jq at hi;simp [tot];omega
 |cons x xs ih =>
  have h0:=hx x (by simp)
  have hr:∀ y ∈ xs,0≤y:=fun y hy=>hx y (by simp [hy])
  have hsum:=(ih 0 (by omega) (by unfold jq;omega) hr).1
  rw [List.sum_cons]
  refine ⟨by omega,?_⟩
  show (if jq (s+x) then tot (s+x) xs else none)=_
  by_cases h:jq (s+x)
  ·rw [if_pos h,(ih (s+x) (by omega) h hr).2,Int.add_assoc]
  ·rw [if_neg h,if_neg (by unfold jq at *;omega)]
theorem zc7 {k l:IntKind} {a b c d:Int} (h:a=b) (g:c=d):Ending.returned (.tuple #[.int k a,.int l c]) = .returned (.tuple #[.int k b,.int l d]):=by rw [h,g]
end Go.Proofs.YtbbjlfbemibfcaaGreat.num
end
section
namespace Go.Proofs.YtbbjlfbemibfcaaGreat.limit
set_option maxRecDepth 20000
open Go.Proofs.YtbbjlfbemibfcaaGreat.cell (Ce Ex covers qi2)
open Go.Proofs.YtbbjlfbemibfcaaGreat.frame (jh)
def right (l:Ex):Bool:=decide (0≤l.l∧0≤l.s∧0≤l.n)
def cap (was now c:Int):Bool:=decide (was < now∧c < now)
def against (was now l:Ex):Bool:=cap was.l now.l l.l || cap was.s now.s l.s || cap was.n now.n l.n
def whole (l:List Ce):Int × Int:=(num.Vh (num.tot 0 (l.map Ce.n)),num.Pz (num.tot 0 (l.map Ce.n)))
theorem qnk {was now l:Ex} : against was now l=true ↔ (was.l < now.l∧l.l < now.l)∨(was.s < now.s∧l.s < now.s)∨(was.n < now.n∧l.n < now.n):=by
 simp [against,cap,or_assoc]
theorem qxd {was now l:Ex} : against was now l=false ↔ ¬ ((was.l < now.l∧l.l < now.l)∨(was.s < now.s∧l.s < now.s)∨(was.n < now.n∧l.n < now.n)):=by
 rw [← qnk];simp
theorem qyr {a b:Ex} : covers a b=false ↔ ¬ (b.l≤a.l∧b.s≤a.s∧b.n≤a.n):=by
 rw [← qi2];simp
theorem down {was now l:Ex} (g:against was now l=true):covers was now=false:=by
 rw [qyr];rw [qnk] at g;omega
theorem two {a b c l:Ex} (h:against a b l=false) (g:against b c l=false):against a c l=false:=by
 rw [qxd] at *;omega
end Go.Proofs.YtbbjlfbemibfcaaGreat.limit
end
section
namespace Go.Proofs.YtbbjlfbemibfcaaGreat.book
set_option maxRecDepth 20000
open Go.Proofs.YtbbjlfbemibfcaaGreat.cell (Ce Ex)
open Go.Proofs.YtbbjlfbemibfcaaGreat.order (Or Nt open_ worth)
open Go.Proofs.YtbbjlfbemibfcaaGreat.rec (Rc)
open Go.Proofs.YtbbjlfbemibfcaaGreat.frame (jh)
structure St where
 (a y:Int) (os:List Or) (cs:List Ce) (ls:List Ex) (ps:List Int) (k:Bool) (last seq ng:Int)
 deriving DecidableEq
def pl (y:Int) (o:Or):Int:=o.a * y+o.y
def wB (y i:Int) (o:Or):Int:=if pl y o=i∧o.d=1 then open_ o else 0
def wS (y i:Int) (o:Or):Int:=if pl y o=i∧o.d≠1 then open_ o else 0
def wN (y i:Int) (o:Or):Int:=if pl y o=i then (worth o).1 else 0
def sum (w:Or→Int) (os:List Or):Int:=(os.map w).sum
def cellAt (y i p:Int) (os:List Or):Ce:=⟨p,sum (wB y i) os,sum (wS y i) os,sum (wN y i) os⟩
def cellsOf (y:Int) (os:List Or) (ps:List Int):List Ce:=ps.mapIdx fun i p=>cellAt y i p os
def acc (y:Int) (j:Nat) (cs:List Ce):List Ce:=(cs.drop (j * y.toNat)).take y.toNat
def Fits (a y:Int) (os:List Or) (cs:List Ce):Prop :=
 (∀ o ∈ os,(worth o).2=0)∧(∀ c ∈ cs,c.fine∧cell.aj c)∧∀ j ∈ List.range a.toNat,(limit.whole (acc y j cs)).2=0
def Rl (a y last:Int) (os:List Or):Prop :=
 (∀ o ∈ os,order.aj o∧o.h≠3∧o.a < a∧o.y < y∧o.i≤last)∧os.Pairwise (fun o p=>o.i < p.i)∧os.length≤64
def Yo (l:Ex):Prop:=0≤l.l∧0≤l.s∧0≤l.n
def aj (s:St):Prop :=
 (1≤s.a∧s.a≤8∧1≤s.y∧s.y≤8)∧((s.cs.length:Int)=s.a * s.y∧(s.ls.length:Int)=s.a * s.y∧(s.ps.length:Int)=s.a) ∧
 (0≤s.last∧s.last≤1000000000000∧0≤s.seq∧s.seq≤1000000000∧0≤s.ng∧s.ng≤1000000000) ∧
 Rl s.a s.y s.last s.os∧(∀ l ∈ s.ls,Yo l)∧(∀ c ∈ s.ps,0≤c)∧Fits s.a s.y s.os s.cs∧s.cs=cellsOf s.y s.os (s.cs.map Ce.p)
instance (a y:Int) (os:List Or) (cs:List Ce):Decidable (Fits a y os cs):=by unfold Fits;infer_instance
instance (a y last:Int) (os:List Or):Decidable (Rl a y last os):=by unfold Rl;infer_instance
instance (l:Ex):Decidable (Yo l):=by unfold Yo;infer_instance
instance (s:St):Decidable (aj s):=by unfold aj;infer_instance
def right (s:St):Bool:=decide (aj s)
theorem dh {s:St} : right s=true ↔ aj s:=by simp [right]
theorem jo {s:St} : right s=false ↔ ¬ aj s:=by simp [right]
theorem Vj (w:Or→Int):∀ (os:List Or) (k:Nat) (o p:Or),os[k]?=some o→sum w (os.set k p)=sum w os - w o+w p
 | [],k,o,p,h=>by simp at h
 |x :: os,0,o,p,h=>by
  simp only [List.getElem?_cons_zero,Option.some.injEq] at h
  subst h
  simp [sum];omega
 |x :: os,k+1,o,p,h=>by
  simp only [List.getElem?_cons_succ] at h
  have:=Vj w os k o p h
  simp only [sum,List.set_cons_succ,List.map_cons,List.sum_cons] at *
  omega
theorem qq0 (w:Or→Int):∀ (os:List Or) (k:Nat) (o:Or),os[k]?=some o→sum w (os.eraseIdx k)=sum w os - w o
 | [],k,o,h=>by simp at h
 |x :: os,0,o,h=>by
  simp only [List.getElem?_cons_zero,Option.some.injEq] at h
  subst h
  simp [sum];omega
 |x :: os,k+1,o,h=>by
  simp only [List.getElem?_cons_succ] at h
  have:=qq0 w os k o h
  simp only [sum,List.eraseIdx_cons_succ,List.map_cons,List.sum_cons] at *
  omega
theorem qhr (w:Or→Int) (os:List Or) (o:Or):sum w (os++[o])=sum w os+w o:=by simp [sum]
theorem qkn {w:Or→Int} : ∀ {os:List Or},(∀ o ∈ os,0≤w o)→0≤sum w os
 | [],_=>by simp [sum]
 |x :: os,h=>by
  have h0:=h x (by simp)
  have h1:=qkn (w:=w) (os:=os) (fun o ho=>h o (by simp [ho]))
  simp only [sum,List.map_cons,List.sum_cons] at *
  omega
theorem Yp {w:Or→Int} : ∀ {os:List Or} {k:Nat} {o:Or},(∀ o ∈ os,0≤w o)→os[k]?=some o→w o≤sum w os
 | [],k,o,_,h=>by simp at h
 |x :: os,0,o,hn,h=>by
  simp only [List.getElem?_cons_zero,Option.some.injEq] at h
  subst h
  have h1:=qkn (w:=w) (os:=os) (fun o ho=>hn o (by simp [ho]))
  simp only [sum,List.map_cons,List.sum_cons] at *
  omega
 |x :: os,k+1,o,hn,h=>by
  simp only [List.getElem?_cons_succ] at h
  have h1:=Yp (w:=w) (fun o ho=>hn o (by simp [ho])) h
  have h0:=hn x (by simp)
  simp only [sum,List.map_cons,List.sum_cons] at *
  omega
theorem qn0 {w:Or→Int} {os:List Or} (h:∀ o ∈ os,0≤w o) (k:Nat):sum w (os.take k)≤sum w os:=by
 have h1:sum w os=sum w (os.take k)+sum w (os.drop k):=by
  unfold sum
  conv=>lhs;rw [← List.take_append_drop k os]
  rw [List.map_append,List.sum_append]
 have h2:=qkn (w:=w) (os:=os.drop k) (fun o ho=>h o (List.mem_of_mem_drop ho))
 omega
theorem qrr {y i:Int} {o:Or} (h:order.aj o):0≤wB y i o:=by
 unfold wB;split
 ·exact cell.Yk h
 ·omega
theorem qrs {y i:Int} {o:Or} (h:order.aj o):0≤wS y i o:=by
 unfold wS;split
 ·exact cell.Yk h
 ·omega
theorem qrt {y i:Int} {o:Or} (h:order.aj o):0≤wN y i o:=by
 unfold wN;split
 ·exact cell.qji h
 ·omega
theorem qij (y:Int) (os:List Or) (ps:List Int):(cellsOf y os ps).length=ps.length:=by simp [cellsOf]
theorem qht {y:Int} {os:List Or} {ps:List Int} {i:Nat} {p:Int} (h:ps[i]?=some p):(cellsOf y os ps)[i]?=some (cellAt y i p os):=by
 simp [cellsOf,List.getElem?_mapIdx,h]
theorem qq1 (y:Int) (os:List Or) (ps:List Int):(cellsOf y os ps).map Ce.p=ps:=by
 apply List.ext_getElem?
 intro i
 rw [List.getElem?_map]
 cases h:ps[i]? with
 |none=>simp [cellsOf,List.getElem?_mapIdx,h]
 |some p=>rw [qht h];rfl
theorem Yq {s:St} (hs:aj s) {i:Nat} {c:Ce} (h:s.cs[i]?=some c):c=cellAt s.y i c.p s.os∧c.fine∧cell.aj c:=by
 obtain ⟨_,_,_,_,_,_,hf,hc⟩:=hs
 refine ⟨?_,hf.2.1 c (List.mem_of_getElem? h)⟩
 have h1:(s.cs.map Ce.p)[i]?=some c.p:=by rw [List.getElem?_map,h];rfl
 have h2:=qht (y:=s.y) (os:=s.os) h1
 rw [← hc,h] at h2
 exact Option.some.inj h2
theorem qn1 {l:List Ce} (hn:∀ c ∈ l,0≤c.n):(limit.whole l).2=0 ↔ (l.map Ce.n).sum≤9223372036854775807:=by
 have h:=num.qow 0 (l.map Ce.n) (by omega) (by unfold jq;omega) (by intro x hx;obtain ⟨c,hc,rfl⟩:=List.mem_map.1 hx;exact hn c hc)
 unfold limit.whole
 rw [h.2,Int.zero_add]
 split
 ·rename_i h1;simp [num.Pz,h1]
 ·rename_i h1;simp [num.Pz];omega
theorem qx {l:List Ce} (hn:∀ c ∈ l,0≤c.n) (h:(limit.whole l).2=0):(limit.whole l).1=(l.map Ce.n).sum:=by
 have h1:=(qn1 hn).1 h
 have h2:=num.qow 0 (l.map Ce.n) (by omega) (by unfold jq;omega) (by intro x hx;obtain ⟨c,hc,rfl⟩:=List.mem_map.1 hx;exact hn c hc)
 unfold limit.whole
 rw [h2.2,Int.zero_add,if_pos h1]
 simp [num.Vh]
theorem qys:∀ {l m:List Ce},l.length=m.length→(∀ (i:Nat) (c d:Ce),l[i]?=some c→m[i]?=some d→c.n≤d.n)→(l.map Ce.n).sum≤(m.map Ce.n).sum
 | [],[],_,_=>Int.le_refl _
 | [],_ :: _,h,_=>by simp at h
 | _ :: _,[],h,_=>by simp at h
 |x :: l,z :: m,h,hle=>by
  have h0:=hle 0 x z rfl rfl
  have h1:=qys (l:=l) (m:=m) (by simpa using h) (fun i c d hc hd=>hle (i+1) c d (by simpa using hc) (by simpa using hd))
  simp only [List.map_cons,List.sum_cons]
  omega
theorem qyt {y:Int} {j i:Nat} {cs:List Ce} {c:Ce} (h:(acc y j cs)[i]?=some c):cs[j * y.toNat+i]?=some c:=by
 unfold acc at h
 rw [List.getElem?_take] at h
 split at h
 ·rwa [List.getElem?_drop] at h
 ·cases h
theorem q47 {y:Int} {j:Nat} {cs ds:List Ce} (h:cs.length=ds.length):(acc y j cs).length=(acc y j ds).length:=by
 unfold acc;simp [h]
theorem qu8 {y:Int} {j:Nat} {cs:List Ce} {c:Ce} (h:c ∈ acc y j cs):c ∈ cs:=List.mem_of_mem_drop (List.mem_of_mem_take h)
theorem q1y {y:Int} {j:Nat} {cs ds:List Ce} (hl:ds.length=cs.length) (h0:∀ c ∈ cs,0≤c.n) (h1:∀ c ∈ ds,0≤c.n) (hle:∀ (i:Nat) (c d:Ce),cs[i]?=some c→ds[i]?=some d→d.n≤c.n) (h:(limit.whole (acc y j cs)).2=0) :
  (limit.whole (acc y j ds)).2=0∧(limit.whole (acc y j ds)).1≤(limit.whole (acc y j cs)).1:=by
 have g0:∀ c ∈ acc y j cs,0≤c.n:=fun c hc=>h0 c (qu8 hc)
 have g1:∀ c ∈ acc y j ds,0≤c.n:=fun c hc=>h1 c (qu8 hc)
 have hs:=qys (l:=acc y j ds) (m:=acc y j cs) (q47 hl) (fun i c d hc hd=>hle _ d c (qyt hd) (qyt hc))
 have hw:=(qn1 g0).1 h
 have hd:(limit.whole (acc y j ds)).2=0:=(qn1 g1).2 (by omega)
 exact ⟨hd,by rw [qx g1 hd,qx g0 h];exact hs⟩
end Go.Proofs.YtbbjlfbemibfcaaGreat.book
end
section
namespace Go.Proofs.YtbbjlfbemibfcaaGreat.book
set_option maxRecDepth 20000
open Go.Proofs.YtbbjlfbemibfcaaGreat.cell (Ce Ex)
open Go.Proofs.YtbbjlfbemibfcaaGreat.order (Or Nt open_ worth yt)
open Go.Proofs.YtbbjlfbemibfcaaGreat.rec (Rc)
open Go.Proofs.YtbbjlfbemibfcaaGreat.frame (jh)
def find (os:List Or) (id:Int):Option Nat:=os.findIdx? (fun o=>decide (o.i=id))
def cz:Ce:=⟨0,0,0,0⟩
def xz:Ex:=⟨0,0,0⟩
def place (y a b:Int):Nat:=(a * y+b).toNat
def put (s:St) (os:List Or):St:={ s with os:=os,cs:=cellsOf s.y os (s.cs.map Ce.p) }
def stands (s t:St) (a y:Int):Bool :=
 limit.against (cell.Ba (s.cs.getD (place s.y a y) cz)).1 (cell.Ba (t.cs.getD (place s.y a y) cz)).1 (s.ls.getD (place s.y a y) xz) ||
 limit.cap (limit.whole (acc s.y a.toNat s.cs)).1 (limit.whole (acc s.y a.toNat t.cs)).1 (s.ps.getD a.toNat 0)
def ask (s:St) (os:List Or) (a y last:Int):St × Int :=
 if Fits s.a s.y os (put s os).cs then (if stands s (put s os) a y=true then (s,4) else ({ put s os with last:=last },0)) else (s,3)
def shift (o:Or) (n:Nt):Int:=if n.t=3 then (if o.d=1 then n.q else -n.q) else 0
def Dq (os:List Or) (k:Nat) (p:Or):List Or:=if p.h=3 then os.eraseIdx k else os.set k p
def moved (y:Int) (ps:List Int) (o:Or) (n:Nt):List Int:=ps.mapIdx fun i p=>if pl y o=i then p+shift o n else p
def nt (r:Rc):Nt:=⟨r.z,r.t,r.o,r.q,r.p⟩
def Ot (s:St) (r:Rc):St × Int :=
 if r.z - 1≠s.seq then (s,11) else
 match find s.os r.o with
 |none=>({ s with seq:=r.z },0)
 |some k =>
  if (order.take (s.os.getD k order.oz) (nt r)).2≠0 then ({ s with seq:=r.z },0)
  else ({ s with seq:=r.z,os:=Dq s.os k (order.take (s.os.getD k order.oz) (nt r)).1,cs:=cellsOf s.y (Dq s.os k (order.take (s.os.getD k order.oz) (nt r)).1) (moved s.y (s.cs.map Ce.p) (s.os.getD k order.oz) (nt r)) },0)
def doing (s:St) (r:Rc):St × Int :=
 if r.k=1 then (if s.k=true then (s,5) else if 64≤s.os.length then (s,6) else ask s (s.os++[(order.jl r).1]) r.a r.y r.o)
 else if r.k=2 then
  match find s.os r.o with
  |none=>(s,7)
  |some k =>
   if (order.change (s.os.getD k order.oz) r.q r.p).2≠0 then (s,8) else if s.k=true then (s,5)
   else ask s (s.os.set k (order.change (s.os.getD k order.oz) r.q r.p).1) (s.os.getD k order.oz).a (s.os.getD k order.oz).y s.last
 else if r.k=3 then
  match find s.os r.o with
  |none=>(s,7)
  |some k=>if (order.stop (s.os.getD k order.oz)).2≠0 then (s,8) else ({ s with os:=s.os.set k (order.stop (s.os.getD k order.oz)).1 },0)
 else if r.k=4 then (if r.y = -1 then ({ s with ps:=s.ps.set r.a.toNat r.n },0) else ({ s with ls:=s.ls.set (place s.y r.a r.y) ⟨r.l,r.s,r.n⟩ },0))
 else if r.k=5 then ({ s with k:=r.on },0)
 else Ot s r
def qc5 (s:St) (r:Rc):Prop:=right s=false∨rec.right r=false∨1000000000≤s.ng∨s.a≤r.a∨s.y≤r.y∨(r.k=1∧r.o≤s.last)
instance (s:St) (r:Rc):Decidable (qc5 s r):=by unfold qc5;infer_instance
def do_ (s:St) (r:Rc):St × Int :=
 if qc5 s r then (s,1) else if (doing s r).2≠0 then (s,(doing s r).2) else ({ (doing s r).1 with ng:=s.ng+1 },0)
theorem qyu {o:Or} {n:Nt} {p:Or} (hr:order.aj o) (h:yt o n p) (ht:n.t=3) (hq:1≤n.q):open_ p+n.q≤open_ o:=by
 have hp:=order.Yj hr h
 have h2:=order.dh.2 hr
 have h3:=order.dh.2 hp
 unfold open_
 rw [h2,h3]
 unfold order.aj at hr hp
 cases h<;>simp only [order.done] at *<;>(try omega)<;>simp<;>(repeat' split)<;>omega
theorem q48 {y:Int} {o:Or} {n:Nt} {p:Or} (hr:order.aj o) (h:yt o n p):pl y p=pl y o∧p.d=o.d:=by
 have:=order.qj0 hr h
 unfold pl
 rw [this.2.2.2.1,this.2.2.2.2.1]
 exact ⟨rfl,this.2.2.2.2.2.1⟩
theorem Vk {w:Or→Int} {os:List Or} {k:Nat} {o p:Or} (h:os[k]?=some o) (hw:p.h=3→w p=0):sum w (Dq os k p)=sum w os - w o+w p:=by
 unfold Dq
 split
 ·rename_i h3;rw [qq0 w os k o h,hw h3];omega
 ·exact Vj w os k o p h
theorem qyv {p:Or} (h:p.h=3):open_ p=0:=by unfold open_;simp [h]
theorem Vl {y i:Int} {p:Or} (hr:order.aj p) (h:p.h=3):wB y i p=0∧wS y i p=0∧wN y i p=0:=by
 unfold wB wS wN
 rw [qyv h,order.qi1 hr h]
 simp
theorem qk8 {s:St} (hs:aj s) {k:Nat} {o:Or} {n:Nt} {p:Or} (hk:s.os[k]?=some o) (ht:yt o n p) (hn:order.Lh n=true) {i:Nat} {c:Ce} (hc:s.cs[i]?=some c) :
  ∃ d,(cellsOf s.y (Dq s.os k p) (moved s.y (s.cs.map Ce.p) o n))[i]?=some d∧d.fine∧cell.aj d∧d.p+d.b≤c.p+c.b∧d.s - d.p≤c.s - c.p∧d.n≤c.n∧(pl s.y o≠i→d=c):=by
 obtain ⟨hce,hcf,hcr⟩:=Yq hs hc
 have ho:order.aj o:=(hs.2.2.2.1.1 o (List.mem_of_getElem? hk)).1
 have hos:∀ q ∈ s.os,order.aj q:=fun q hq=>(hs.2.2.2.1.1 q hq).1
 have hp:=order.Yj ho ht
 obtain ⟨hpl,hd⟩:=q48 (y:=s.y) ho ht
 have hpos:(moved s.y (s.cs.map Ce.p) o n)[i]?=some (if pl s.y o=i then c.p+shift o n else c.p):=by
  simp [moved,List.getElem?_mapIdx,hc]
 refine ⟨_,qht hpos,?_⟩
 have eB:=Vk (w:=wB s.y i) hk (fun h3=>(Vl (y:=s.y) (i:=i) hp h3).1)
 have eS:=Vk (w:=wS s.y i) hk (fun h3=>(Vl (y:=s.y) (i:=i) hp h3).2.1)
 have eN:=Vk (w:=wN s.y i) hk (fun h3=>(Vl (y:=s.y) (i:=i) hp h3).2.2)
 have gB:=Yp (w:=wB s.y i) (fun q hq=>qrr (hos q hq)) hk
 have gS:=Yp (w:=wS s.y i) (fun q hq=>qrs (hos q hq)) hk
 have gN:=Yp (w:=wN s.y i) (fun q hq=>qrt (hos q hq)) hk
 have hw0:(worth o).2=0:=hs.2.2.2.2.2.2.1.1 o (List.mem_of_getElem? hk)
 obtain ⟨w',hw',hwl⟩:=order.qk6 ho ht (a:=(worth o).1) (by rw [← hw0])
 have hwn:0≤(worth p).1:=cell.qji hp
 have zx8 : (worth p).1≤(worth o).1:=by rw [hw'];exact hwl
 have hon:=cell.Yk hp
 have hol:=order.qyl ho ht
 have zc9:n.t=3→open_ p+n.q≤open_ o∧1≤n.q:=fun h3=>by
  have hq:=(order.Xb.1 hn).2.2
  rw [h3] at hq
  have h1:=(order.qih hq).1
  exact ⟨qyu ho ht h3 h1,h1⟩
 have hside:o.d=1∨o.d=2:=by unfold order.aj at ho;omega
 have cb:c.b=sum (wB s.y i) s.os:=by rw [hce];rfl
 have csl:c.s=sum (wS s.y i) s.os:=by rw [hce];rfl
 have cn:c.n=sum (wN s.y i) s.os:=by rw [hce];rfl
 by_cases hi:pl s.y o=i
 ·rw [if_pos hi]
  have b1:wB s.y i o=if o.d=1 then open_ o else 0:=by unfold wB;simp [hi]
  have b2:wB s.y i p=if o.d=1 then open_ p else 0:=by unfold wB;rw [hpl,hd];simp [hi]
  have s1:wS s.y i o=if o.d=1 then 0 else open_ o:=by unfold wS;by_cases h:o.d=1<;>simp [hi,h]
  have s2:wS s.y i p=if o.d=1 then 0 else open_ p:=by unfold wS;rw [hpl,hd];by_cases h:o.d=1<;>simp [hi,h]
  have n1:wN s.y i o=(worth o).1:=by unfold wN;simp [hi]
  have n2:wN s.y i p=(worth p).1:=by unfold wN;rw [hpl];simp [hi]
  rw [b1,b2] at eB
  rw [b1] at gB
  rw [s1,s2] at eS
  rw [s1] at gS
  rw [n1,n2] at eN
  rw [n1] at gN
  unfold cellAt
  rw [eB,eS,eN,← cb,← csl,← cn]
  rw [← cb] at gB
  rw [← csl] at gS
  rw [← cn] at gN
  unfold shift
  generalize open_ o=x at *
  generalize open_ p=x' at *
  generalize (worth o).1=z at *
  generalize (worth p).1=z' at *
  clear eB eS eN b1 b2 s1 s2 n1 n2 hce cb csl cn hpos
  obtain ⟨cp,cb,cs,cn⟩:=c
  unfold Ce.fine jh at *
  unfold cell.aj at *
  simp only at *
  by_cases h3:n.t=3
  ·have:=zc9 h3
   rcases hside with e | e<;>simp only [h3,e,if_true,if_false,show ¬ (2:Int)=1 by decide] at *<;>refine ⟨?_,?_,?_,?_,?_,?_⟩<;>first | omega | (intro h;exact absurd hi h)
  ·rcases hside with e | e<;>simp only [h3,e,if_true,if_false,show ¬ (2:Int)=1 by decide] at *<;>refine ⟨?_,?_,?_,?_,?_,?_⟩<;>first | omega | (intro h;exact absurd hi h)
 ·rw [if_neg hi]
  have z1:wB s.y i o=0:=by unfold wB;simp [hi]
  have z2:wB s.y i p=0:=by unfold wB;rw [hpl];simp [hi]
  have z3:wS s.y i o=0:=by unfold wS;simp [hi]
  have z4:wS s.y i p=0:=by unfold wS;rw [hpl];simp [hi]
  have z5:wN s.y i o=0:=by unfold wN;simp [hi]
  have z6:wN s.y i p=0:=by unfold wN;rw [hpl];simp [hi]
  have he:cellAt s.y i c.p (Dq s.os k p)=c:=by
   rw [hce]
   unfold cellAt
   simp only
   rw [eB,eS,eN,z1,z2,z3,z4,z5,z6]
   simp
  rw [he]
  exact ⟨hcf,hcr,Int.le_refl _,Int.le_refl _,Int.le_refl _,fun _=>rfl⟩
end Go.Proofs.YtbbjlfbemibfcaaGreat.book
end
section
namespace Go.Proofs.YtbbjlfbemibfcaaGreat.book
set_option maxRecDepth 20000
open Go.Proofs.YtbbjlfbemibfcaaGreat.cell (Ce Ex)
open Go.Proofs.YtbbjlfbemibfcaaGreat.order (Or Nt open_ worth yt)
open Go.Proofs.YtbbjlfbemibfcaaGreat.rec (Rc)
open Go.Proofs.YtbbjlfbemibfcaaGreat.frame (jh)
theorem q49 {os:List Or} {k:Nat} {o p:Or} (h:os[k]?=some o) (hi:p.i=o.i):(os.set k p).map Or.i=os.map Or.i:=by
 rw [List.map_set]
 apply List.ext_getElem?
 intro j
 rw [List.getElem?_set]
 split
 ·rename_i hj
  subst hj
  have hl:=(List.getElem?_eq_some_iff.1 h).1
  rw [if_pos (by simpa using hl),List.getElem?_map,h,hi]
  rfl
 ·rfl
theorem qsj {os:List Or} : os.Pairwise (fun o p=>o.i < p.i) ↔ (os.map Or.i).Pairwise (· < ·):=by rw [List.pairwise_map]
theorem qsk {a y last:Int} {os:List Or} {k:Nat} {o p:Or} (h:Rl a y last os) (hk:os[k]?=some o) (hp:order.aj p) (h3:p.h≠3) (hi:p.i=o.i) (ha:p.a=o.a) (hy:p.y=o.y):Rl a y last (os.set k p):=by
 obtain ⟨h1,h2,h4⟩:=h
 have ho:=h1 o (List.mem_of_getElem? hk)
 refine ⟨fun q hq=>?_,?_,by simpa using h4⟩
 ·rcases List.mem_or_eq_of_mem_set hq with hq | rfl
  ·exact h1 q hq
  ·exact ⟨hp,h3,by rw [ha];exact ho.2.2.1,by rw [hy];exact ho.2.2.2.1,by rw [hi];exact ho.2.2.2.2⟩
 ·rw [qsj,q49 hk hi,← qsj];exact h2
theorem q1z {a y last:Int} {os:List Or} {k:Nat} (h:Rl a y last os):Rl a y last (os.eraseIdx k):=by
 obtain ⟨h1,h2,h4⟩:=h
 have hs:=List.eraseIdx_sublist os k
 exact ⟨fun q hq=>h1 q (hs.subset hq),h2.sublist hs,by have:=hs.length_le;omega⟩
theorem q5a {a y last:Int} {os:List Or} {o:Or} (h:Rl a y last os) (hl:os.length < 64) (ho:order.aj o) (h3:o.h≠3) (ha:o.a < a) (hy:o.y < y) (hi:last < o.i):Rl a y o.i (os++[o]):=by
 obtain ⟨h1,h2,h4⟩:=h
 refine ⟨fun q hq=>?_,?_,by simp;omega⟩
 ·rcases List.mem_append.1 hq with hq | hq
  ·have:=h1 q hq
   exact ⟨this.1,this.2.1,this.2.2.1,this.2.2.2.1,by omega⟩
  ·simp at hq;subst hq;exact ⟨ho,h3,ha,hy,Int.le_refl _⟩
 ·rw [List.pairwise_append]
  refine ⟨h2,by simp,fun q hq r hr=>?_⟩
  simp at hr;subst hr
  have:=(h1 q hq).2.2.2.2
  omega
theorem ql5 {os:List Or} {id:Int} {k:Nat} (h:find os id=some k):∃ o,os[k]?=some o∧o.i=id:=by
 unfold find at h
 rw [List.findIdx?_eq_some_iff_getElem] at h
 obtain ⟨hk,h1,_⟩:=h
 exact ⟨os[k],List.getElem?_eq_getElem hk,by simpa using h1⟩
theorem getD_at {α:Type} {l:List α} {k:Nat} {x d:α} (h:l[k]?=some x):l.getD k d=x:=by
 rw [List.getD_eq_getElem?_getD,h];rfl
theorem ql6 (y:Int) (ps:List Int) (o:Or) (n:Nt):(moved y ps o n).length=ps.length:=by simp [moved]
theorem qxe {s:St} {os:List Or} {o:Or} {n:Nt} {d:Ce} {i:Nat} (h:(cellsOf s.y os (moved s.y (s.cs.map Ce.p) o n))[i]?=some d):∃ c,s.cs[i]?=some c:=by
 have hl:=(List.getElem?_eq_some_iff.1 h).1
 rw [qij,ql6,List.length_map] at hl
 exact ⟨s.cs[i],List.getElem?_eq_getElem hl⟩
theorem qun {s:St} (hs:aj s) {k:Nat} {o:Or} {n:Nt} {p:Or} (hk:s.os[k]?=some o) (ht:yt o n p) (hn:order.Lh n=true) (hq:s.seq < n.z) :
  aj { s with seq:=n.z,os:=Dq s.os k p,cs:=cellsOf s.y (Dq s.os k p) (moved s.y (s.cs.map Ce.p) o n) }:=by
 have hs':=hs
 obtain ⟨h1,⟨h2,h2',Yr⟩,h3,h4,h5,h6,h7,h8⟩:=hs'
 have ho:=(h4.1 o (List.mem_of_getElem? hk)).1
 have hp:=order.Yj ho ht
 have hsame:=order.qj0 ho ht
 have hz:=(order.Xb.1 hn).1
 have hlen:(cellsOf s.y (Dq s.os k p) (moved s.y (s.cs.map Ce.p) o n)).length=s.cs.length:=by rw [qij,ql6,List.length_map]
 have hn0:∀ c ∈ s.cs,0≤c.n:=fun c hc=>(h7.2.1 c hc).2.2.2.2.2.2.2
 have hn1:∀ d ∈ cellsOf s.y (Dq s.os k p) (moved s.y (s.cs.map Ce.p) o n),d.fine∧cell.aj d:=fun d hd=>by
  obtain ⟨i,hi,rfl⟩:=List.getElem_of_mem hd
  have hi':=List.getElem?_eq_getElem hi
  obtain ⟨c,hc⟩:=qxe hi'
  obtain ⟨e,he,h9,h10,_⟩:=qk8 hs hk ht hn hc
  rw [hi'] at he
  rw [Option.some.inj he]
  exact ⟨h9,h10⟩
 refine ⟨h1,⟨by rw [show ((cellsOf s.y (Dq s.os k p) (moved s.y (s.cs.map Ce.p) o n)).length:Int)=s.cs.length by rw [hlen]];exact h2,h2',Yr⟩,⟨h3.1,h3.2.1,by simp only;omega,by simp only;omega,h3.2.2.2.2⟩,?_,h5,h6,⟨?_,hn1,?_⟩,by simp only;rw [qq1]⟩
 ·unfold Dq
  split
  ·exact q1z h4
  ·rename_i Ou;exact qsk h4 hk hp Ou hsame.2.2.1 hsame.2.2.2.1 hsame.2.2.2.2.1
 ·intro q hq
  have hq' : q ∈ s.os∨q=p:=by
   simp only [Dq] at hq
   split at hq
   ·exact .inl ((List.eraseIdx_sublist _ _).subset hq)
   ·exact List.mem_or_eq_of_mem_set hq
  rcases hq' with hq' | rfl
  ·exact h7.1 q hq'
  ·obtain ⟨b,hb,_⟩:=order.qk6 ho ht (a:=(worth o).1) (by rw [← h7.1 o (List.mem_of_getElem? hk)])
   rw [hb]
 ·intro j hj
  refine (q1y hlen hn0 (fun d hd=>(hn1 d hd).2.2.2.2.2.2.2) (fun i c d hc hd=>?_) (h7.2.2 j hj)).1
  obtain ⟨e,he,_,_,_,_,h9,_⟩:=qk8 hs hk ht hn hc
  rw [hd] at he
  rw [Option.some.inj he]
  exact h9
theorem qq2 {s:St} (hs:aj s) {os:List Or} {last:Int} (ho:Rl s.a s.y last os) (hl:0≤last∧last≤1000000000000) (hf:Fits s.a s.y os (put s os).cs):aj { put s os with last:=last }:=by
 obtain ⟨h1,⟨h2,h2',Yr⟩,h3,h4,h5,h6,h7,h8⟩:=hs
 refine ⟨h1,⟨by simp only [put,qij,List.length_map];exact h2,h2',Yr⟩,⟨hl.1,hl.2,h3.2.2⟩,ho,h5,h6,hf,by simp only [put];rw [qq1]⟩
theorem qyw {s t:St} {os:List Or} {a y last:Int} (h:ask s os a y last=(t,0)):t = { put s os with last:=last }∧Fits s.a s.y os (put s os).cs∧stands s (put s os) a y=false:=by
 unfold ask at h
 split at h
 ·rename_i hf
  split at h
  ·simp at h
  ·rename_i hn
   simp only [Prod.mk.injEq,and_true] at h
   exact ⟨h.symm,hf,by simpa using hn⟩
 ·simp at h
end Go.Proofs.YtbbjlfbemibfcaaGreat.book
end
section
namespace Go.Proofs.YtbbjlfbemibfcaaGreat.book
set_option maxRecDepth 20000
open Go.Proofs.YtbbjlfbemibfcaaGreat.cell (Ce Ex)
open Go.Proofs.YtbbjlfbemibfcaaGreat.order (Or Nt open_ worth yt)
open Go.Proofs.YtbbjlfbemibfcaaGreat.rec (Rc)
open Go.Proofs.YtbbjlfbemibfcaaGreat.frame (jh)
inductive Came (s:St) (r:Rc):St→Prop
 |new {o:Or} : r.k=1→s.k=false→s.os.length < 64→order.jl r=(o,0)→Fits s.a s.y (s.os++[o]) (put s (s.os++[o])).cs→stands s (put s (s.os++[o])) r.a r.y=false→Came s r { put s (s.os++[o]) with last:=r.o }
 |replace {k:Nat} {o p:Or} : r.k=2→s.k=false→s.os[k]?=some o→o.i=r.o→order.change o r.q r.p=(p,0)→Fits s.a s.y (s.os.set k p) (put s (s.os.set k p)).cs→stands s (put s (s.os.set k p)) o.a o.y=false→Came s r { put s (s.os.set k p) with last:=s.last }
 |cancel {k:Nat} {o p:Or} : r.k=3→s.os[k]?=some o→o.i=r.o→order.stop o=(p,0)→Came s r { s with os:=s.os.set k p }
 |cap:r.k=4→r.y = -1→Came s r { s with ps:=s.ps.set r.a.toNat r.n }
 |bound:r.k=4→r.y ≠ -1→Came s r { s with ls:=s.ls.set (place s.y r.a r.y) ⟨r.l,r.s,r.n⟩ }
 |kill:r.k=5→Came s r { s with k:=r.on }
 |past:r.k=6→r.z=s.seq+1→Came s r { s with seq:=r.z }
 |told {k:Nat} {o p:Or} : r.k=6→r.z=s.seq+1→s.os[k]?=some o→o.i=r.o→yt o (nt r) p→order.Lh (nt r)=true→Came s r { s with seq:=r.z,os:=Dq s.os k p,cs:=cellsOf s.y (Dq s.os k p) (moved s.y (s.cs.map Ce.p) o (nt r)) }
theorem q9o {s t:St} {r:Rc} (h:do_ s r=(t,0)):¬ qc5 s r∧∃ u,Came s r u∧t = { u with ng:=s.ng+1 }:=by
 unfold do_ at h
 split at h
 ·simp at h
 rename_i hw
 refine ⟨hw,?_⟩
 split at h
 ·rename_i h1;simp only [Prod.mk.injEq] at h;exact absurd h.2 h1
 rename_i h1
 simp only [ne_eq,Decidable.not_not] at h1
 simp only [Prod.mk.injEq,and_true] at h
 subst h
 refine ⟨_,?_,rfl⟩
 have hr:rec.right r=true:=by
  unfold qc5 at hw
  cases hh:rec.right r
  ·exact absurd (.inr (.inl hh)) hw
  ·rfl
 have hkind:=rec.qw9 hr
 unfold doing at h1 ⊢
 by_cases k1:r.k=1
 ·rw [if_pos k1] at h1 ⊢
  split at h1
  ·simp at h1
  rename_i hk
  rw [if_neg hk]
  split at h1
  ·simp at h1
  rename_i hl
  rw [if_neg hl]
  have hb:order.jl r=((order.jl r).1,0):=by unfold order.jl;rw [if_pos ⟨k1,hr⟩]
  have ha:=qyw (t:=(ask s (s.os++[(order.jl r).1]) r.a r.y r.o).1) (by rw [← h1])
  rw [ha.1]
  exact .new k1 (by simpa using hk) (by omega) hb ha.2.1 ha.2.2
 rw [if_neg k1] at h1 ⊢
 by_cases k2:r.k=2
 ·rw [if_pos k2] at h1 ⊢
  cases hf:find s.os r.o with
  |none=>rw [hf] at h1;simp at h1
  |some k =>
   rw [hf] at h1
   simp only at h1 ⊢
   obtain ⟨o,ho,hi⟩:=ql5 hf
   rw [getD_at ho] at h1 ⊢
   split at h1
   ·simp at h1
   rename_i hc
   rw [if_neg hc]
   simp only [ne_eq,Decidable.not_not] at hc
   split at h1
   ·simp at h1
   rename_i hk
   rw [if_neg hk]
   have ha:=qyw (t:=(ask s (s.os.set k (order.change o r.q r.p).1) o.a o.y s.last).1) (by rw [← h1])
   rw [ha.1]
   exact .replace k2 (by simpa using hk) ho hi (by rw [← hc]) ha.2.1 ha.2.2
 rw [if_neg k2] at h1 ⊢
 by_cases k3:r.k=3
 ·rw [if_pos k3] at h1 ⊢
  cases hf:find s.os r.o with
  |none=>rw [hf] at h1;simp at h1
  |some k =>
   rw [hf] at h1
   simp only at h1 ⊢
   obtain ⟨o,ho,hi⟩:=ql5 hf
   rw [getD_at ho] at h1 ⊢
   split at h1
   ·simp at h1
   rename_i hc
   rw [if_neg hc]
   simp only [ne_eq,Decidable.not_not] at hc
   exact .cancel k3 ho hi (by rw [← hc])
 rw [if_neg k3] at h1 ⊢
 by_cases k4:r.k=4
 ·rw [if_pos k4]
  split
  ·rename_i hy;exact .cap k4 hy
  ·rename_i hy;exact .bound k4 hy
 rw [if_neg k4] at h1 ⊢
 by_cases k5:r.k=5
 ·rw [if_pos k5];exact .kill k5
 rw [if_neg k5] at h1 ⊢
 have k6:r.k=6:=by omega
 have hno:order.Lh (nt r)=true:=by
  unfold rec.right rec.may at hr
  rw [Bool.and_eq_true] at hr
  have h2:=hr.1
  simp only [k6,show ¬ (6:Int)=1 by decide,show ¬ (6:Int)=2 by decide,show ¬ (6:Int)=3 by decide,show ¬ (6:Int)=4 by decide,show ¬ (6:Int)=5 by decide,if_false,if_true,Bool.and_eq_true,decide_eq_true_eq,rec.Ap] at h2
  exact order.Xb.2 ⟨h2.1.1,h2.1.2,h2.2⟩
 unfold Ot at h1 ⊢
 split at h1
 ·simp at h1
 rename_i hz
 rw [if_neg hz]
 have hz' : r.z=s.seq+1:=by omega
 cases hf:find s.os r.o with
 |none=>exact .past k6 hz'
 |some k =>
  obtain ⟨o,ho,hi⟩:=ql5 hf
  simp only
  rw [getD_at ho]
  split
  ·exact .past k6 hz'
  ·rename_i hc
   simp only [ne_eq,Decidable.not_not] at hc
   obtain ⟨_,_,_,ht⟩:=order.qpr (o:=o) (n:=nt r) (p:=(order.take o (nt r)).1) (by rw [← hc])
   exact .told k6 hz' ho hi ht hno
theorem Vm {s:St} {r:Rc} (h:¬ qc5 s r):aj s∧rec.right r=true∧s.ng < 1000000000∧r.a < s.a∧r.y < s.y∧(r.k=1→s.last < r.o):=by
 unfold qc5 at h
 simp only [not_or,Bool.not_eq_false,not_and] at h
 obtain ⟨h1,h2,h3,h4,h5,h6⟩:=h
 exact ⟨dh.1 h1,h2,by omega,by omega,by omega,fun hk=>by have:=h6 hk;omega⟩
theorem q5b {o p:Or} (h:order.stop o=(p,0)):order.aj o∧o.g=false∧o.h≠3∧p = { o with g:=true }:=by
 unfold order.stop at h
 split at h
 ·simp at h
 rename_i h1
 split at h
 ·simp at h
 rename_i h2
 simp only [Prod.mk.injEq,and_true] at h
 exact ⟨order.dh.1 (by simpa using h1),by cases hg:o.g;rfl;exact absurd (.inl hg) h2,fun hh=>h2 (.inr hh),h.symm⟩
theorem Nw (o:Or) (b:Bool):open_ { o with g:=b }=open_ o∧worth { o with g:=b }=worth o∧(order.aj { o with g:=b } ↔ order.aj o):=by
 refine ⟨rfl,rfl,Iff.rfl⟩
theorem q10 {s:St} (hs:aj s) {k:Nat} {o p:Or} (hk:s.os[k]?=some o) (hp:order.aj p) (h3:p.h≠3) (hi:p.i=o.i) (ha:p.a=o.a) (hy:p.y=o.y) (hd:p.d=o.d) (h1:open_ p=open_ o) (h2:worth p=worth o):aj { s with os:=s.os.set k p }:=by
 obtain ⟨g1,g2,g3,g4,g5,g6,g7,g8⟩:=hs
 have hw:∀ w:Or→Int,w p=w o→sum w (s.os.set k p)=sum w s.os:=fun w h=>by rw [Vj w s.os k o p hk,h];omega
 have hc:cellsOf s.y (s.os.set k p) (s.cs.map Ce.p)=cellsOf s.y s.os (s.cs.map Ce.p):=by
  unfold cellsOf cellAt
  congr 1
  funext i q
  have hpl:pl s.y p=pl s.y o:=by unfold pl;rw [ha,hy]
  rw [hw (wB s.y i) (by unfold wB;rw [hpl,hd,h1]),hw (wS s.y i) (by unfold wS;rw [hpl,hd,h1]),hw (wN s.y i) (by unfold wN;rw [hpl,h2])]
 refine ⟨g1,g2,g3,qsk g4 hk hp h3 hi ha hy,g5,g6,⟨fun q hq=>?_,g7.2⟩,?_⟩
 ·rcases List.mem_or_eq_of_mem_set hq with hq | rfl
  ·exact g7.1 q hq
  ·rw [h2];exact g7.1 o (List.mem_of_getElem? hk)
 ·rw [hc];exact g8
theorem qxf {s u:St} {r:Rc} (hw:¬ qc5 s r) (h:Came s r u):aj u∧u.ng=s.ng∧u.a=s.a∧u.y=s.y:=by
 obtain ⟨hs,hr,hl,ha,hy,hn⟩:=Vm hw
 have hs':=hs
 obtain ⟨g1,g2,g3,g4,g5,g6,g7,g8⟩:=hs'
 cases h with
 |new k1 hk hlen hb hf hst =>
  obtain ⟨_,_,hor,he⟩:=order.qnj hb
  refine ⟨qq2 hs ?_ ?_ hf,rfl,rfl,rfl⟩
  ·have:=q5a (o:=⟨r.o,r.a,r.y,r.d,r.q,r.p,0,1,0,0,0,false⟩) g4 hlen (by rw [← he];exact hor) (by simp) ha hy (hn k1)
   rw [he];exact this
  ·have:=order.q9n hor;rw [he] at this;simp only at this;omega
 |replace k2 hk ho hi hc hf hst =>
  obtain ⟨h1,h2,h3,h4,h5,h6,h7,h8,h9⟩:=order.qj1 hc
  refine ⟨qq2 hs (qsk g4 ho (order.ql3 hc) (by rw [h9];simp only;omega) (by rw [h9]) (by rw [h9]) (by rw [h9])) ⟨g3.1,g3.2.1⟩ hf,rfl,rfl,rfl⟩
 |cancel k3 ho hi hc =>
  obtain ⟨h1,h2,h3,h4⟩:=q5b hc
  subst h4
  exact ⟨q10 hs ho h1 h3 rfl rfl rfl rfl rfl rfl,rfl,rfl,rfl⟩
 |cap k4 hy1 =>
  refine ⟨⟨g1,⟨g2.1,g2.2.1,by simpa using g2.2.2⟩,g3,g4,g5,fun c hc=>?_,g7,g8⟩,rfl,rfl,rfl⟩
  rcases List.mem_or_eq_of_mem_set hc with hc | rfl
  ·exact g6 c hc
  ·unfold rec.right rec.may at hr
   simp [k4,hy1,rec.Na] at hr
   omega
 |bound k4 hy1 =>
  refine ⟨⟨g1,⟨g2.1,by simpa using g2.2.1,g2.2.2⟩,g3,g4,fun c hc=>?_,g6,g7,g8⟩,rfl,rfl,rfl⟩
  rcases List.mem_or_eq_of_mem_set hc with hc | rfl
  ·exact g5 c hc
  ·unfold rec.right rec.may at hr
   simp [k4,hy1,rec.Na] at hr
   unfold Yo
   simp only
   omega
 |kill k5=>exact ⟨⟨g1,g2,g3,g4,g5,g6,g7,g8⟩,rfl,rfl,rfl⟩
 |past k6 hz =>
  have hz2:r.z≤1000000000:=by
   unfold rec.right rec.may at hr
   simp [k6] at hr
   omega
  exact ⟨⟨g1,g2,⟨g3.1,g3.2.1,by simp only;omega,hz2,g3.2.2.2.2⟩,g4,g5,g6,g7,g8⟩,rfl,rfl,rfl⟩
 |told k6 hz ho hi ht hno=>exact ⟨qun hs ho ht hno (by unfold nt;simp only;omega),rfl,rfl,rfl⟩
end Go.Proofs.YtbbjlfbemibfcaaGreat.book
end
section
namespace Go.Proofs.YtbbjlfbemibfcaaGreat.book
set_option maxRecDepth 20000
open Go.Proofs.YtbbjlfbemibfcaaGreat.cell (Ce Ex qi2)
open Go.Proofs.YtbbjlfbemibfcaaGreat.order (Or Nt open_ worth yt)
open Go.Proofs.YtbbjlfbemibfcaaGreat.rec (Rc)
open Go.Proofs.YtbbjlfbemibfcaaGreat.frame (jh)
def Vo (c:Ce):Ex:=⟨c.p+c.b,c.s - c.p,c.n⟩
def qru (s:St) (j:Nat):Int:=(limit.whole (acc s.y j s.cs)).1
end Go.Proofs.YtbbjlfbemibfcaaGreat.book
end
section
namespace Go.Proofs.YtbbjlfbemibfcaaGreat.book
set_option maxRecDepth 20000
open Go.Proofs.YtbbjlfbemibfcaaGreat.cell (Ce Ex qi2)
open Go.Proofs.YtbbjlfbemibfcaaGreat.order (Or Nt open_ worth yt)
open Go.Proofs.YtbbjlfbemibfcaaGreat.rec (Rc)
open Go.Proofs.YtbbjlfbemibfcaaGreat.frame (jh)
set_option linter.unusedVariables false
set_option linter.unusedSimpArgs false

/-- what was asked for,and done: where it went,and that it kept within the limits. -/
structure Kept (s t:St) (o:Or):Prop where
  len:t.cs.length=s.cs.length
  ls:t.ls=s.ls
  ps:t.ps=s.ps
  a:t.a=s.a
  y:t.y=s.y
  k:s.k=false
  seq:t.seq=s.seq
  oa:0≤o.a∧o.a < s.a
  oy:0≤o.y∧o.y < s.y
  cell:∀ (i:Nat) (c d:Ce),s.cs[i]?=some c→t.cs[i]?=some d→cell.covers (Vo d) (Vo c)=true∧((i:Int)≠pl s.y o→d=c)∧∀ l,s.ls[i]?=some l→limit.against (Vo c) (Vo d) l=false
  cap:qru s o.a.toNat≤qru t o.a.toNat∧∀ p,s.ps[o.a.toNat]?=some p→limit.cap (qru s o.a.toNat) (qru t o.a.toNat) p=false
end Go.Proofs.YtbbjlfbemibfcaaGreat.book
end
section
namespace Go.Proofs.YtbbjlfbemibfcaaGreat.num
set_option maxRecDepth 20000
open Go.RowKit
theorem qyx (a b:Int) (w:World) (ha:jq a) (hb:jq b) (h:jq (a+b)) :
  Calls Tryz.prog 95 #[.int .i64 a,.int .i64 b] w fun e w'=>e = .returned (.tuple #[.int .i64 (a+b),.int .i64 0])∧w=w':=by
 unfold jq at ha hb h
 by_cases hn:b < 0
 ·have h2:a+b < a:=by omega
  go_enter Tryz.func95,Tryz.ntmps95
  go_wp2
  go_ret2
  exact ⟨rfl,rfl⟩
 ·have h2:¬ a+b < a:=by omega
  go_enter Tryz.func95,Tryz.ntmps95
  go_wp2
  go_ret2
  exact ⟨rfl,rfl⟩
theorem qsl (a b:Int) (w:World) (ha:jq a) (hb:jq b) (h:¬ jq (a+b)) :
  Calls Tryz.prog 95 #[.int .i64 a,.int .i64 b] w fun e w'=>e = .returned (.tuple #[.int .i64 0,.int .i64 3])∧w=w':=by
 unfold jq at ha hb h
 by_cases hn:b < 0
 ·have h2:¬ wrap64 (a+b) < a:=by unfold wrap64;omega
  go_enter Tryz.func95,Tryz.ntmps95
  go_wp2
  go_ret2
  exact ⟨rfl,rfl⟩
 ·have h2:wrap64 (a+b) < a:=by unfold wrap64;omega
  go_enter Tryz.func95,Tryz.ntmps95
  go_wp2
  go_ret2
  exact ⟨rfl,rfl⟩
end Go.Proofs.YtbbjlfbemibfcaaGreat.num
end
section
namespace Go.Proofs.YtbbjlfbemibfcaaGreat.num
set_option maxRecDepth 20000
open Go.RowKit
theorem q7t (a b:Int) (w:World) (ha:jq a) (hb:jq b) (h:jq (a - b)) :
  Calls Tryz.prog 115 #[.int .i64 a,.int .i64 b] w fun e w'=>e = .returned (.tuple #[.int .i64 (a - b),.int .i64 0])∧w=w':=by
 unfold jq at ha hb h
 by_cases hn:b < 0
 ·have h2:a < a - b:=by omega
  go_enter Tryz.func115,Tryz.ntmps115
  go_wp2
  go_ret2
  exact ⟨rfl,rfl⟩
 ·have h2:¬ a < a - b:=by omega
  go_enter Tryz.func115,Tryz.ntmps115
  go_wp2
  go_ret2
  exact ⟨rfl,rfl⟩
theorem q11 (a b:Int) (w:World) (ha:jq a) (hb:jq b) (h:¬ jq (a - b)) :
  Calls Tryz.prog 115 #[.int .i64 a,.int .i64 b] w fun e w'=>e = .returned (.tuple #[.int .i64 0,.int .i64 3])∧w=w':=by
 unfold jq at ha hb h
 by_cases hn:b < 0
 ·have h2:¬ a < wrap64 (a - b):=by unfold wrap64;omega
  go_enter Tryz.func115,Tryz.ntmps115
  go_wp2
  go_ret2
  exact ⟨rfl,rfl⟩
 ·have h2:a < wrap64 (a - b):=by unfold wrap64;omega
  go_enter Tryz.func115,Tryz.ntmps115
  go_wp2
  go_ret2
  exact ⟨rfl,rfl⟩
end Go.Proofs.YtbbjlfbemibfcaaGreat.num
end
section
namespace Go.Proofs.YtbbjlfbemibfcaaGreat.num
set_option maxRecDepth 20000
open Go.RowKit
theorem q7u (a b:Int) (w:World) (ha:jq a) (hb:jq b) (h:jq (a * b)) :
  Calls Tryz.prog 133 #[.int .i64 a,.int .i64 b] w fun e w'=>e = .returned (.tuple #[.int .i64 (a * b),.int .i64 0])∧w=w':=by
 unfold jq at ha hb h
 by_cases hz:a=0
 ·subst hz
  go_enter Tryz.func133,Tryz.ntmps133
  go_wp2
  go_ret2
  exact ⟨by simp,rfl⟩
 by_cases hy:b=0
 ·subst hy
  go_enter Tryz.func133,Tryz.ntmps133
  go_wp2
  go_ret2
  exact ⟨by simp,rfl⟩
 have hz' : (a == 0)=false:=by simpa using hz
 have hy' : (b == 0)=false:=by simpa using hy
 have h1:wrap64 ((a * b).tdiv a)=b:=by rw [Int.mul_tdiv_cancel_left _ hz];unfold wrap64;omega
 have h2:wrap64 ((a * b).tdiv b)=a:=by rw [Int.mul_tdiv_cancel _ hy];unfold wrap64;omega
 go_enter Tryz.func133,Tryz.ntmps133
 go_wp2
 go_ret2
 exact ⟨rfl,rfl⟩
theorem q12 (a b:Int) (w:World) (ha:jq a) (hb:jq b) (h:¬ jq (a * b)) :
  Calls Tryz.prog 133 #[.int .i64 a,.int .i64 b] w fun e w'=>e = .returned (.tuple #[.int .i64 0,.int .i64 3])∧w=w':=by
 have hz:a≠0:=by rintro rfl;exact h (by unfold jq;omega)
 have hy:b≠0:=by rintro rfl;exact h (by unfold jq;omega)
 have H:=qyp a b ha hb hz hy h
 have hz' : (a == 0)=false:=by simpa using hz
 have hy' : (b == 0)=false:=by simpa using hy
 by_cases h1:wrap64 ((wrap64 (a * b)).tdiv a)=b
 ·have h2:=H h1
  have h1' : (wrap64 ((wrap64 (a * b)).tdiv a) != b)=false:=by simpa using h1
  have h2' : (wrap64 ((wrap64 (a * b)).tdiv b) != a)=true:=by simpa using h2
  clear H h1 h2 h
  go_enter Tryz.func133,Tryz.ntmps133
  go_wp2
  go_ret2
  exact ⟨rfl,rfl⟩
 ·have h1' : (wrap64 ((wrap64 (a * b)).tdiv a) != b)=true:=by simpa using h1
  clear H h1 h
  go_enter Tryz.func133,Tryz.ntmps133
  go_wp2
  go_ret2
  exact ⟨rfl,rfl⟩
end Go.Proofs.YtbbjlfbemibfcaaGreat.num
end
section
namespace Go.Proofs.YtbbjlfbemibfcaaGreat.num
set_option maxRecDepth 20000
open Go.RowKit
theorem q5c (a b:Int) (w:World) (ha:jq a) (hb:jq b) :
  Calls Tryz.prog 134 #[.int .i64 a,.int .i64 b] w fun e w'=>e = .returned (.int .i64 (max a b))∧w=w':=by
 unfold jq at ha hb
 by_cases h:a < b
 ·rw [show max a b=b by omega]
  go_enter Tryz.func134,Tryz.ntmps134
  go_wp2
  go_ret
  exact ⟨by simp,rfl⟩
 ·rw [show max a b=a by omega]
  go_enter Tryz.func134,Tryz.ntmps134
  go_wp2
  go_ret
  exact ⟨by simp,rfl⟩
end Go.Proofs.YtbbjlfbemibfcaaGreat.num
end
section
namespace Go.Proofs.YtbbjlfbemibfcaaGreat.num
set_option maxRecDepth 20000
open Go.RowKit
theorem qyy (A:Option Addr) (n cap B:Nat) (xs:List Int) (w:World) (hx:Ints .i64 w B A xs) (hn:xs.length=n) (hm:n≤140737488355328) :
  Calls Tryz.prog 96 #[.slice A n cap] w fun e w'=>e = .returned (.tuple #[.int .i64 (Vh (tot 0 xs)),.int .i64 (Pz (tot 0 xs))])∧w=w':=by
 have HN:Hid (xs.length=n):=Lib.hid hn
 go_enter Tryz.func96,Tryz.ntmps96
 clear hn
 go_wp2
 go_loop [4,10] (fun t i => ∃ k:Nat,k≤n∧i = .int .i64 k∧∃ s:Int,t = .int .i64 s∧jq s∧Hid (tot 0 xs=tot s (xs.drop k))) (fun _ i=>n - (intOf i).toNat)
 case atStart=>exact ⟨0,Nat.zero_le _,rfl,0,rfl,by unfold jq;omega,Lib.hid (by simp)⟩
 case round =>
  obtain ⟨k,hk,rfl,s,rfl,hs,HT⟩:=hrel
  by_cases hlt:k < n
  ·obtain ⟨b,off,x,rfl,hb,HX,hc,hw⟩:=hx.at_ (j:=k) (by rw [HN.out];exact hlt)
   have hxi:=qb2 hw
   by_cases hin:jq (s+x)
   ·go_wp2_with ((with_reducible refine (qyx _ _ _ hs hxi hin).mono ?_);rintro e w' ⟨rfl,rfl⟩)
    go_round
    case rel=>exact ⟨k+1,by omega,by go_num,_,rfl,hin,Lib.hid (by rw [HT.out,qu7 s HX.out hin])⟩
    case measure=>simp [intOf];omega
   ·have HE:Hid (tot 0 xs=none):=Lib.hid (by rw [HT.out,qyq s HX.out hin])
    go_wp2_with ((with_reducible refine (qsl _ _ _ hs hxi hin).mono ?_);rintro e w' ⟨rfl,rfl⟩)
    go_ret2
    exact ⟨zc7 (by rw [HE.out];rfl) (by rw [HE.out];rfl),rfl⟩
  ·have HE:Hid (tot 0 xs=some s):=Lib.hid (by rw [HT.out,List.drop_of_length_le (by rw [HN.out];omega)];rfl)
   go_wp2
   go_ret2
   exact ⟨zc7 (by rw [HE.out];rfl) (by rw [HE.out];rfl),rfl⟩
end Go.Proofs.YtbbjlfbemibfcaaGreat.num
end
