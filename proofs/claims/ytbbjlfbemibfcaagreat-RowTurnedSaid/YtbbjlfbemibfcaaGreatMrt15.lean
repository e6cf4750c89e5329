/-
  NumWords, TotWords, LimMath, BookMath, BookMath2, BookMath3
-/
import Derived.Test.YtbbjlfbemibfcaaGreatRows
import Derived.Test.YtbbjlfbemibfcaaGreatMrt01
import Derived.WalkKit
import Derived.WalkSpells
import Derived.WalkLawsBesides
import Derived.Test.YtbbjlfbemibfcaaGreatMrt11
set_option linter.unusedVariables false
set_option linter.unusedSimpArgs false
section
namespace Go.Proofs.YtbbjlfbemibfcaaGreat.num
set_option maxRecDepth 20000
open Go.RowKit
theorem wrap_round (x:Int):∃ k:Int,wrap64 x=x+18446744073709551616 * k:=by
 refine ⟨(wrap64 x - x) / 18446744073709551616,?_⟩
 unfold wrap64;omega
theorem wrap_in (x:Int):inI (wrap64 x):=by unfold wrap64 inI;omega
theorem mul_wraps (a b:Int) (ha:inI a) (hb:inI b) (hz:a≠0) (hy:b≠0) (h:¬ inI (a * b))
  (h1:wrap64 ((wrap64 (a * b)).tdiv a)=b):¬ wrap64 ((wrap64 (a * b)).tdiv b)=a:=by
 have hp:=wrap_in (a * b)
 obtain ⟨k,hk⟩:=wrap_round (a * b)
 have hne:wrap64 (a * b)≠a * b:=fun e=>h (e▸hp)
 generalize wrap64 (a * b)=p at *
 have hq:∀ c,inI c→c≠0→inI (p.tdiv c)∨(c = -1∧p = -9223372036854775808):=by
  intro c hc hc0
  have h2:(p.tdiv c).natAbs=p.natAbs / c.natAbs:=Int.natAbs_tdiv p c
  have h3:=Nat.div_le_self p.natAbs c.natAbs
  by_cases hm:p = -9223372036854775808
  ·by_cases hc1:c = -1
   ·exact Or.inr ⟨hc1,hm⟩
   ·left
    by_cases hc2:c=1
    ·subst hc2;simpa using hp
    ·have h4:p.natAbs / c.natAbs≤p.natAbs / 2:=Nat.div_le_div_left (by omega) (by omega)
     unfold inI at *;omega
  ·left;unfold inI at *;omega
 have key:∀ c d:Int,c≠0→inI c→p.tdiv c=d→c * d=a * b→False:=by
  intro c d hc hci hd he
  have h2:=Int.mul_tdiv_add_tmod p c
  rw [hd,he] at h2
  have h3:(p.tmod c).natAbs=p.natAbs % c.natAbs:=Int.natAbs_tmod p c
  have h4:=Nat.mod_lt p.natAbs (show 0 < c.natAbs by omega)
  have hk0:k≠0:=by intro hk0;apply hne;rw [hk,hk0];omega
  unfold inI at hci
  omega
 have wr:∀ x,inI x→wrap64 x=x:=by intro x hx;unfold inI at hx;unfold wrap64;omega
 intro h2
 rcases hq a ha hz with q1 | ⟨ea,ep⟩
 ·rw [wr _ q1] at h1
  exact key a b hz ha h1 rfl
 ·rcases hq b hb hy with q2 | ⟨eb,_⟩
  ·rw [wr _ q2] at h2
   exact key b a hy hb h2 (Int.mul_comm _ _)
  ·subst ea eb;exact h (by unfold inI;omega)
end Go.Proofs.YtbbjlfbemibfcaaGreat.num
end
section
namespace Go.Proofs.YtbbjlfbemibfcaaGreat.num
set_option maxRecDepth 20000
open Go.RowKit
def tot (s:Int):List Int→Option Int
 | []=>some s
 |x :: r=>if inI (s+x) then tot (s+x) r else none
def totV (o:Option Int):Int:=o.getD 0
def totE (o:Option Int):Int:=if o.isSome then 0 else 3
theorem drop_at {xs:List Int} {k:Nat} {x:Int} (h:xs[k]?=some x):xs.drop k=x :: xs.drop (k+1):=by
 obtain ⟨hk,rfl⟩:=List.getElem?_eq_some_iff.1 h
 rw [List.drop_eq_getElem_cons hk]
theorem tot_yes {xs:List Int} {k:Nat} {x:Int} (s:Int) (h:xs[k]?=some x) (hi:inI (s+x)):tot s (xs.drop k)=tot (s+x) (xs.drop (k+1)):=by
 rw [drop_at h];unfold tot;rw [if_pos hi];cases xs.drop (k+1)<;>rfl
theorem tot_no {xs:List Int} {k:Nat} {x:Int} (s:Int) (h:xs[k]?=some x) (hi:¬ inI (s+x)):tot s (xs.drop k)=none:=by
 rw [drop_at h];unfold tot;rw [if_neg hi]
theorem tot_nonneg (s:Int) (xs:List Int) (hs:0≤s) (hi:inI s) (hx:∀ x ∈ xs,0≤x) :
  0≤xs.sum∧tot s xs=if s+xs.sum≤9223372036854775807 then some (s+xs.sum) else none:=by
 induction xs generalizing s with
 |nil=>unfold inI at hi;simp [tot];omega
 |cons x xs ih =>
  have h0:=hx x (by simp)
  have hr:∀ y ∈ xs,0≤y:=fun y hy=>hx y (by simp [hy])
  have hsum:=(ih 0 (by omega) (by unfold inI;omega) hr).1
  rw [List.sum_cons]
  refine ⟨by omega,?_⟩
  show (if inI (s+x) then tot (s+x) xs else none)=_
  by_cases h:inI (s+x)
  ·rw [if_pos h,(ih (s+x) (by omega) h hr).2,Int.add_assoc]
  ·rw [if_neg h,if_neg (by unfold inI at *;omega)]
theorem ret2 {k l:IntKind} {a b c d:Int} (h:a=b) (g:c=d):Ending.returned (.tuple #[.int k a,.int l c]) = .returned (.tuple #[.int k b,.int l d]):=by rw [h,g]
end Go.Proofs.YtbbjlfbemibfcaaGreat.num
end
section
namespace Go.Proofs.YtbbjlfbemibfcaaGreat.limit
set_option maxRecDepth 20000
open Go.Proofs.YtbbjlfbemibfcaaGreat.cell (Ce Ex covers covers_iff)
open Go.Proofs.YtbbjlfbemibfcaaGreat.frame (inR)
def right (l:Ex):Bool:=decide (0≤l.l∧0≤l.s∧0≤l.n)
def cap (was now c:Int):Bool:=decide (was < now∧c < now)
def against (was now l:Ex):Bool:=cap was.l now.l l.l || cap was.s now.s l.s || cap was.n now.n l.n
def whole (l:List Ce):Int × Int:=(num.totV (num.tot 0 (l.map Ce.n)),num.totE (num.tot 0 (l.map Ce.n)))
theorem against_iff {was now l:Ex} : against was now l=true ↔ (was.l < now.l∧l.l < now.l)∨(was.s < now.s∧l.s < now.s)∨(was.n < now.n∧l.n < now.n):=by
 simp [against,cap,or_assoc]
theorem against_no {was now l:Ex} : against was now l=false ↔ ¬ ((was.l < now.l∧l.l < now.l)∨(was.s < now.s∧l.s < now.s)∨(was.n < now.n∧l.n < now.n)):=by
 rw [← against_iff];simp
theorem covers_no {a b:Ex} : covers a b=false ↔ ¬ (b.l≤a.l∧b.s≤a.s∧b.n≤a.n):=by
 rw [← covers_iff];simp
theorem down {was now l:Ex} (g:against was now l=true):covers was now=false:=by
 rw [covers_no];rw [against_iff] at g;omega
theorem two {a b c l:Ex} (h:against a b l=false) (g:against b c l=false):against a c l=false:=by
 rw [against_no] at *;omega
end Go.Proofs.YtbbjlfbemibfcaaGreat.limit
end
section
namespace Go.Proofs.YtbbjlfbemibfcaaGreat.book
set_option maxRecDepth 20000
open Go.Proofs.YtbbjlfbemibfcaaGreat.cell (Ce Ex)
open Go.Proofs.YtbbjlfbemibfcaaGreat.order (Or Nt open_ worth)
open Go.Proofs.YtbbjlfbemibfcaaGreat.rec (Rc)
open Go.Proofs.YtbbjlfbemibfcaaGreat.frame (inR)
structure St where
 (a y:Int) (os:List Or) (cs:List Ce) (ls:List Ex) (ps:List Int) (k:Bool) (last seq lsn:Int)
 deriving DecidableEq
def pl (y:Int) (o:Or):Int:=o.a * y+o.y
def wB (y i:Int) (o:Or):Int:=if pl y o=i∧o.d=1 then open_ o else 0
def wS (y i:Int) (o:Or):Int:=if pl y o=i∧o.d≠1 then open_ o else 0
def wN (y i:Int) (o:Or):Int:=if pl y o=i then (worth o).1 else 0
def sum (w:Or→Int) (os:List Or):Int:=(os.map w).sum
def cellAt (y i p:Int) (os:List Or):Ce:=⟨p,sum (wB y i) os,sum (wS y i) os,sum (wN y i) os⟩
def cellsOf (y:Int) (os:List Or) (ps:List Int):List Ce:=ps.mapIdx fun i p=>cellAt y i p os
def acc (y:Int) (j:Nat) (cs:List Ce):List Ce:=(cs.drop (j * y.toNat)).take y.toNat
def Fits (a y:Int) (os:List Or) (cs:List Ce):Prop :=
 (∀ o ∈ os,(worth o).2=0)∧(∀ c ∈ cs,c.fine∧cell.Rightly c)∧∀ j ∈ List.range a.toNat,(limit.whole (acc y j cs)).2=0
def OrdersOk (a y last:Int) (os:List Or):Prop :=
 (∀ o ∈ os,order.Rightly o∧o.h≠3∧o.a < a∧o.y < y∧o.i≤last)∧os.Pairwise (fun o p=>o.i < p.i)∧os.length≤64
def LimOk (l:Ex):Prop:=0≤l.l∧0≤l.s∧0≤l.n
def Rightly (s:St):Prop :=
 (1≤s.a∧s.a≤8∧1≤s.y∧s.y≤8)∧((s.cs.length:Int)=s.a * s.y∧(s.ls.length:Int)=s.a * s.y∧(s.ps.length:Int)=s.a) ∧
 (0≤s.last∧s.last≤1000000000000∧0≤s.seq∧s.seq≤1000000000∧0≤s.lsn∧s.lsn≤1000000000) ∧
 OrdersOk s.a s.y s.last s.os∧(∀ l ∈ s.ls,LimOk l)∧(∀ c ∈ s.ps,0≤c)∧Fits s.a s.y s.os s.cs∧s.cs=cellsOf s.y s.os (s.cs.map Ce.p)
instance (a y:Int) (os:List Or) (cs:List Ce):Decidable (Fits a y os cs):=by unfold Fits;infer_instance
instance (a y last:Int) (os:List Or):Decidable (OrdersOk a y last os):=by unfold OrdersOk;infer_instance
instance (l:Ex):Decidable (LimOk l):=by unfold LimOk;infer_instance
instance (s:St):Decidable (Rightly s):=by unfold Rightly;infer_instance
def right (s:St):Bool:=decide (Rightly s)
theorem right_iff {s:St} : right s=true ↔ Rightly s:=by simp [right]
theorem right_no {s:St} : right s=false ↔ ¬ Rightly s:=by simp [right]
theorem sum_set (w:Or→Int):∀ (os:List Or) (k:Nat) (o p:Or),os[k]?=some o→sum w (os.set k p)=sum w os - w o+w p
 | [],k,o,p,h=>by simp at h
 |x :: os,0,o,p,h=>by
  simp only [List.getElem?_cons_zero,Option.some.injEq] at h
  subst h
  simp [sum];omega
 |x :: os,k+1,o,p,h=>by
  simp only [List.getElem?_cons_succ] at h
  have:=sum_set w os k o p h
  simp only [sum,List.set_cons_succ,List.map_cons,List.sum_cons] at *
  omega
theorem sum_erase (w:Or→Int):∀ (os:List Or) (k:Nat) (o:Or),os[k]?=some o→sum w (os.eraseIdx k)=sum w os - w o
 | [],k,o,h=>by simp at h
 |x :: os,0,o,h=>by
  simp only [List.getElem?_cons_zero,Option.some.injEq] at h
  subst h
  simp [sum];omega
 |x :: os,k+1,o,h=>by
  simp only [List.getElem?_cons_succ] at h
  have:=sum_erase w os k o h
  simp only [sum,List.eraseIdx_cons_succ,List.map_cons,List.sum_cons] at *
  omega
theorem sum_snoc (w:Or→Int) (os:List Or) (o:Or):sum w (os++[o])=sum w os+w o:=by simp [sum]
theorem sum_nn {w:Or→Int} : ∀ {os:List Or},(∀ o ∈ os,0≤w o)→0≤sum w os
 | [],_=>by simp [sum]
 |x :: os,h=>by
  have h0:=h x (by simp)
  have h1:=sum_nn (w:=w) (os:=os) (fun o ho=>h o (by simp [ho]))
  simp only [sum,List.map_cons,List.sum_cons] at *
  omega
theorem sum_one {w:Or→Int} : ∀ {os:List Or} {k:Nat} {o:Or},(∀ o ∈ os,0≤w o)→os[k]?=some o→w o≤sum w os
 | [],k,o,_,h=>by simp at h
 |x :: os,0,o,hn,h=>by
  simp only [List.getElem?_cons_zero,Option.some.injEq] at h
  subst h
  have h1:=sum_nn (w:=w) (os:=os) (fun o ho=>hn o (by simp [ho]))
  simp only [sum,List.map_cons,List.sum_cons] at *
  omega
 |x :: os,k+1,o,hn,h=>by
  simp only [List.getElem?_cons_succ] at h
  have h1:=sum_one (w:=w) (fun o ho=>hn o (by simp [ho])) h
  have h0:=hn x (by simp)
  simp only [sum,List.map_cons,List.sum_cons] at *
  omega
theorem sum_take {w:Or→Int} {os:List Or} (h:∀ o ∈ os,0≤w o) (k:Nat):sum w (os.take k)≤sum w os:=by
 have h1:sum w os=sum w (os.take k)+sum w (os.drop k):=by
  unfold sum
  conv=>lhs;rw [← List.take_append_drop k os]
  rw [List.map_append,List.sum_append]
 have h2:=sum_nn (w:=w) (os:=os.drop k) (fun o ho=>h o (List.mem_of_mem_drop ho))
 omega
theorem wB_nn {y i:Int} {o:Or} (h:order.Rightly o):0≤wB y i o:=by
 unfold wB;split
 ·exact cell.open_nn h
 ·omega
theorem wS_nn {y i:Int} {o:Or} (h:order.Rightly o):0≤wS y i o:=by
 unfold wS;split
 ·exact cell.open_nn h
 ·omega
theorem wN_nn {y i:Int} {o:Or} (h:order.Rightly o):0≤wN y i o:=by
 unfold wN;split
 ·exact cell.worth_nn h
 ·omega
theorem cells_len (y:Int) (os:List Or) (ps:List Int):(cellsOf y os ps).length=ps.length:=by simp [cellsOf]
theorem cells_at {y:Int} {os:List Or} {ps:List Int} {i:Nat} {p:Int} (h:ps[i]?=some p):(cellsOf y os ps)[i]?=some (cellAt y i p os):=by
 simp [cellsOf,List.getElem?_mapIdx,h]
theorem cells_pos (y:Int) (os:List Or) (ps:List Int):(cellsOf y os ps).map Ce.p=ps:=by
 apply List.ext_getElem?
 intro i
 rw [List.getElem?_map]
 cases h:ps[i]? with
 |none=>simp [cellsOf,List.getElem?_mapIdx,h]
 |some p=>rw [cells_at h];rfl
theorem cell_is {s:St} (hs:Rightly s) {i:Nat} {c:Ce} (h:s.cs[i]?=some c):c=cellAt s.y i c.p s.os∧c.fine∧cell.Rightly c:=by
 obtain ⟨_,_,_,_,_,_,hf,hc⟩:=hs
 refine ⟨?_,hf.2.1 c (List.mem_of_getElem? h)⟩
 have h1:(s.cs.map Ce.p)[i]?=some c.p:=by rw [List.getElem?_map,h];rfl
 have h2:=cells_at (y:=s.y) (os:=s.os) h1
 rw [← hc,h] at h2
 exact Option.some.inj h2
theorem whole_ok {l:List Ce} (hn:∀ c ∈ l,0≤c.n):(limit.whole l).2=0 ↔ (l.map Ce.n).sum≤9223372036854775807:=by
 have h:=num.tot_nonneg 0 (l.map Ce.n) (by omega) (by unfold inI;omega) (by intro x hx;obtain ⟨c,hc,rfl⟩:=List.mem_map.1 hx;exact hn c hc)
 unfold limit.whole
 rw [h.2,Int.zero_add]
 split
 ·rename_i h1;simp [num.totE,h1]
 ·rename_i h1;simp [num.totE];omega
theorem whole_is {l:List Ce} (hn:∀ c ∈ l,0≤c.n) (h:(limit.whole l).2=0):(limit.whole l).1=(l.map Ce.n).sum:=by
 have h1:=(whole_ok hn).1 h
 have h2:=num.tot_nonneg 0 (l.map Ce.n) (by omega) (by unfold inI;omega) (by intro x hx;obtain ⟨c,hc,rfl⟩:=List.mem_map.1 hx;exact hn c hc)
 unfold limit.whole
 rw [h2.2,Int.zero_add,if_pos h1]
 simp [num.totV]
theorem sum_le:∀ {l m:List Ce},l.length=m.length→(∀ (i:Nat) (c d:Ce),l[i]?=some c→m[i]?=some d→c.n≤d.n)→(l.map Ce.n).sum≤(m.map Ce.n).sum
 | [],[],_,_=>Int.le_refl _
 | [],_ :: _,h,_=>by simp at h
 | _ :: _,[],h,_=>by simp at h
 |x :: l,z :: m,h,hle=>by
  have h0:=hle 0 x z rfl rfl
  have h1:=sum_le (l:=l) (m:=m) (by simpa using h) (fun i c d hc hd=>hle (i+1) c d (by simpa using hc) (by simpa using hd))
  simp only [List.map_cons,List.sum_cons]
  omega
theorem acc_at {y:Int} {j i:Nat} {cs:List Ce} {c:Ce} (h:(acc y j cs)[i]?=some c):cs[j * y.toNat+i]?=some c:=by
 unfold acc at h
 rw [List.getElem?_take] at h
 split at h
 ·rwa [List.getElem?_drop] at h
 ·cases h
theorem acc_len {y:Int} {j:Nat} {cs ds:List Ce} (h:cs.length=ds.length):(acc y j cs).length=(acc y j ds).length:=by
 unfold acc;simp [h]
theorem acc_mem {y:Int} {j:Nat} {cs:List Ce} {c:Ce} (h:c ∈ acc y j cs):c ∈ cs:=List.mem_of_mem_drop (List.mem_of_mem_take h)
theorem acc_less {y:Int} {j:Nat} {cs ds:List Ce} (hl:ds.length=cs.length) (h0:∀ c ∈ cs,0≤c.n) (h1:∀ c ∈ ds,0≤c.n) (hle:∀ (i:Nat) (c d:Ce),cs[i]?=some c→ds[i]?=some d→d.n≤c.n) (h:(limit.whole (acc y j cs)).2=0) :
  (limit.whole (acc y j ds)).2=0∧(limit.whole (acc y j ds)).1≤(limit.whole (acc y j cs)).1:=by
 have g0:∀ c ∈ acc y j cs,0≤c.n:=fun c hc=>h0 c (acc_mem hc)
 have g1:∀ c ∈ acc y j ds,0≤c.n:=fun c hc=>h1 c (acc_mem hc)
 have hs:=sum_le (l:=acc y j ds) (m:=acc y j cs) (acc_len hl) (fun i c d hc hd=>hle _ d c (acc_at hd) (acc_at hc))
 have hw:=(whole_ok g0).1 h
 have hd:(limit.whole (acc y j ds)).2=0:=(whole_ok g1).2 (by omega)
 exact ⟨hd,by rw [whole_is g1 hd,whole_is g0 h];exact hs⟩
end Go.Proofs.YtbbjlfbemibfcaaGreat.book
end
section
namespace Go.Proofs.YtbbjlfbemibfcaaGreat.book
set_option maxRecDepth 20000
open Go.Proofs.YtbbjlfbemibfcaaGreat.cell (Ce Ex)
open Go.Proofs.YtbbjlfbemibfcaaGreat.order (Or Nt open_ worth Took)
open Go.Proofs.YtbbjlfbemibfcaaGreat.rec (Rc)
open Go.Proofs.YtbbjlfbemibfcaaGreat.frame (inR)
def find (os:List Or) (id:Int):Option Nat:=os.findIdx? (fun o=>decide (o.i=id))
def cz:Ce:=⟨0,0,0,0⟩
def xz:Ex:=⟨0,0,0⟩
def place (y a b:Int):Nat:=(a * y+b).toNat
def put (s:St) (os:List Or):St:={ s with os:=os,cs:=cellsOf s.y os (s.cs.map Ce.p) }
def stands (s t:St) (a y:Int):Bool :=
 limit.against (cell.of_ (s.cs.getD (place s.y a y) cz)).1 (cell.of_ (t.cs.getD (place s.y a y) cz)).1 (s.ls.getD (place s.y a y) xz) ||
 limit.cap (limit.whole (acc s.y a.toNat s.cs)).1 (limit.whole (acc s.y a.toNat t.cs)).1 (s.ps.getD a.toNat 0)
def ask (s:St) (os:List Or) (a y last:Int):St × Int :=
 if Fits s.a s.y os (put s os).cs then (if stands s (put s os) a y=true then (s,4) else ({ put s os with last:=last },0)) else (s,3)
def shift (o:Or) (n:Nt):Int:=if n.t=3 then (if o.d=1 then n.q else -n.q) else 0
def left_ (os:List Or) (k:Nat) (p:Or):List Or:=if p.h=3 then os.eraseIdx k else os.set k p
def moved (y:Int) (ps:List Int) (o:Or) (n:Nt):List Int:=ps.mapIdx fun i p=>if pl y o=i then p+shift o n else p
def nt (r:Rc):Nt:=⟨r.z,r.t,r.o,r.q,r.p⟩
def event (s:St) (r:Rc):St × Int :=
 if r.z - 1≠s.seq then (s,11) else
 match find s.os r.o with
 |none=>({ s with seq:=r.z },0)
 |some k =>
  if (order.take (s.os.getD k order.oz) (nt r)).2≠0 then ({ s with seq:=r.z },0)
  else ({ s with seq:=r.z,os:=left_ s.os k (order.take (s.os.getD k order.oz) (nt r)).1,cs:=cellsOf s.y (left_ s.os k (order.take (s.os.getD k order.oz) (nt r)).1) (moved s.y (s.cs.map Ce.p) (s.os.getD k order.oz) (nt r)) },0)
def doing (s:St) (r:Rc):St × Int :=
 if r.k=1 then (if s.k=true then (s,5) else if 64≤s.os.length then (s,6) else ask s (s.os++[(order.begin_ r).1]) r.a r.y r.o)
 else if r.k=2 then
  match find s.os r.o with
  |none=>(s,7)
  |some k =>
   if (order.change (s.os.getD k order.oz) r.q r.p).2≠0 then (s,8) else if s.k=true then (s,5)
   else ask s (s.os.set k (order.change (s.os.getD k order.oz) r.q r.p).1) (s.os.getD k order.oz).a (s.os.getD k order.oz).y s.last
 else if r.k=3 then
  match find s.os r.o with
  |none=>(s,7)
  |some k=>if (order.stop (s.os.getD k order.oz)).2≠0 then (s,8) else ({ s with os:=s.os.set k (order.stop (s.os.getD k order.oz)).1 },0)
 else if r.k=4 then (if r.y = -1 then ({ s with ps:=s.ps.set r.a.toNat r.n },0) else ({ s with ls:=s.ls.set (place s.y r.a r.y) ⟨r.l,r.s,r.n⟩ },0))
 else if r.k=5 then ({ s with k:=r.on },0)
 else event s r
def Wrong (s:St) (r:Rc):Prop:=right s=false∨rec.right r=false∨1000000000≤s.lsn∨s.a≤r.a∨s.y≤r.y∨(r.k=1∧r.o≤s.last)
instance (s:St) (r:Rc):Decidable (Wrong s r):=by unfold Wrong;infer_instance
def do_ (s:St) (r:Rc):St × Int :=
 if Wrong s r then (s,1) else if (doing s r).2≠0 then (s,(doing s r).2) else ({ (doing s r).1 with lsn:=s.lsn+1 },0)
theorem took_fill {o:Or} {n:Nt} {p:Or} (hr:order.Rightly o) (h:Took o n p) (ht:n.t=3) (hq:1≤n.q):open_ p+n.q≤open_ o:=by
 have hp:=order.took_right hr h
 have h2:=order.right_iff.2 hr
 have h3:=order.right_iff.2 hp
 unfold open_
 rw [h2,h3]
 unfold order.Rightly at hr hp
 cases h<;>simp only [order.done] at *<;>(try omega)<;>simp<;>(repeat' split)<;>omega
theorem pl_same {y:Int} {o:Or} {n:Nt} {p:Or} (hr:order.Rightly o) (h:Took o n p):pl y p=pl y o∧p.d=o.d:=by
 have:=order.took_same hr h
 unfold pl
 rw [this.2.2.2.1,this.2.2.2.2.1]
 exact ⟨rfl,this.2.2.2.2.2.1⟩
theorem left_sum {w:Or→Int} {os:List Or} {k:Nat} {o p:Or} (h:os[k]?=some o) (hw:p.h=3→w p=0):sum w (left_ os k p)=sum w os - w o+w p:=by
 unfold left_
 split
 ·rename_i h3;rw [sum_erase w os k o h,hw h3];omega
 ·exact sum_set w os k o p h
theorem open_done {p:Or} (h:p.h=3):open_ p=0:=by unfold open_;simp [h]
theorem w_done {y i:Int} {p:Or} (hr:order.Rightly p) (h:p.h=3):wB y i p=0∧wS y i p=0∧wN y i p=0:=by
 unfold wB wS wN
 rw [open_done h,order.worth_done hr h]
 simp
theorem event_cell {s:St} (hs:Rightly s) {k:Nat} {o:Or} {n:Nt} {p:Or} (hk:s.os[k]?=some o) (ht:Took o n p) (hn:order.noteOk n=true) {i:Nat} {c:Ce} (hc:s.cs[i]?=some c) :
  ∃ d,(cellsOf s.y (left_ s.os k p) (moved s.y (s.cs.map Ce.p) o n))[i]?=some d∧d.fine∧cell.Rightly d∧d.p+d.b≤c.p+c.b∧d.s - d.p≤c.s - c.p∧d.n≤c.n∧(pl s.y o≠i→d=c):=by
 obtain ⟨hce,hcf,hcr⟩:=cell_is hs hc
 have ho:order.Rightly o:=(hs.2.2.2.1.1 o (List.mem_of_getElem? hk)).1
 have hos:∀ q ∈ s.os,order.Rightly q:=fun q hq=>(hs.2.2.2.1.1 q hq).1
 have hp:=order.took_right ho ht
 obtain ⟨hpl,hd⟩:=pl_same (y:=s.y) ho ht
 have hpos:(moved s.y (s.cs.map Ce.p) o n)[i]?=some (if pl s.y o=i then c.p+shift o n else c.p):=by
  simp [moved,List.getElem?_mapIdx,hc]
 refine ⟨_,cells_at hpos,?_⟩
 have eB:=left_sum (w:=wB s.y i) hk (fun h3=>(w_done (y:=s.y) (i:=i) hp h3).1)
 have eS:=left_sum (w:=wS s.y i) hk (fun h3=>(w_done (y:=s.y) (i:=i) hp h3).2.1)
 have eN:=left_sum (w:=wN s.y i) hk (fun h3=>(w_done (y:=s.y) (i:=i) hp h3).2.2)
 have gB:=sum_one (w:=wB s.y i) (fun q hq=>wB_nn (hos q hq)) hk
 have gS:=sum_one (w:=wS s.y i) (fun q hq=>wS_nn (hos q hq)) hk
 have gN:=sum_one (w:=wN s.y i) (fun q hq=>wN_nn (hos q hq)) hk
 have hw0:(worth o).2=0:=hs.2.2.2.2.2.2.1.1 o (List.mem_of_getElem? hk)
 obtain ⟨w',hw',hwl⟩:=order.took_worth ho ht (a:=(worth o).1) (by rw [← hw0])
 have hwn:0≤(worth p).1:=cell.worth_nn hp
 have hwl' : (worth p).1≤(worth o).1:=by rw [hw'];exact hwl
 have hon:=cell.open_nn hp
 have hol:=order.took_open ho ht
 have hfill:n.t=3→open_ p+n.q≤open_ o∧1≤n.q:=fun h3=>by
  have hq:=(order.noteOk_iff.1 hn).2.2
  rw [h3] at hq
  have h1:=(order.tell_fill hq).1
  exact ⟨took_fill ho ht h3 h1,h1⟩
 have hside:o.d=1∨o.d=2:=by unfold order.Rightly at ho;omega
 have cb:c.b=sum (wB s.y i) s.os:=by rw [hce];rfl
 have csl:c.s=sum (wS s.y i) s.os:=by rw [hce];rfl
 have cn:c.n=sum (wN s.y i) s.os:=by rw [hce];rfl
 by_cases hi:pl s.y o=i
 ·rw [if_pos hi]
  have b1:wB s.y i o=if o.d=1 then open_ o else 0:=by unfold wB;simp [hi]
  have b2:wB s.y i p=if o.d=1 then open_ p else 0:=by unfold wB;rw [hpl,hd];simp [hi]
  have s1:wS s.y i o=if o.d=1 then 0 else open_ o:=by unfold wS;by_cases h:o.d=1<;>simp [hi,h]
  have s2:wS s.y i p=if o.d=1 then 0 else open_ p:=by unfold wS;rw [hpl,hd];by_cases h:o.d=1<;>simp [hi,h]
  have n1:wN s.y i o=(worth o).1:=by unfold wN;simp [hi]
  have n2:wN s.y i p=(worth p).1:=by unfold wN;rw [hpl];simp [hi]
  rw [b1,b2] at eB
  rw [b1] at gB
  rw [s1,s2] at eS
  rw [s1] at gS
  rw [n1,n2] at eN
  rw [n1] at gN
  unfold cellAt
  rw [eB,eS,eN,← cb,← csl,← cn]
  rw [← cb] at gB
  rw [← csl] at gS
  rw [← cn] at gN
  unfold shift
  generalize open_ o=x at *
  generalize open_ p=x' at *
  generalize (worth o).1=z at *
  generalize (worth p).1=z' at *
  clear eB eS eN b1 b2 s1 s2 n1 n2 hce cb csl cn hpos
  obtain ⟨cp,cb,cs,cn⟩:=c
  unfold Ce.fine inR at *
  unfold cell.Rightly at *
  simp only at *
  by_cases h3:n.t=3
  ·have:=hfill h3
   rcases hside with e | e<;>simp only [h3,e,if_true,if_false,show ¬ (2:Int)=1 by decide] at *<;>refine ⟨?_,?_,?_,?_,?_,?_⟩<;>first | omega | (intro h;exact absurd hi h)
  ·rcases hside with e | e<;>simp only [h3,e,if_true,if_false,show ¬ (2:Int)=1 by decide] at *<;>refine ⟨?_,?_,?_,?_,?_,?_⟩<;>first | omega | (intro h;exact absurd hi h)
 ·rw [if_neg hi]
  have z1:wB s.y i o=0:=by unfold wB;simp [hi]
  have z2:wB s.y i p=0:=by unfold wB;rw [hpl];simp [hi]
  have z3:wS s.y i o=0:=by unfold wS;simp [hi]
  have z4:wS s.y i p=0:=by unfold wS;rw [hpl];simp [hi]
  have z5:wN s.y i o=0:=by unfold wN;simp [hi]
  have z6:wN s.y i p=0:=by unfold wN;rw [hpl];simp [hi]
  have he:cellAt s.y i c.p (left_ s.os k p)=c:=by
   rw [hce]
   unfold cellAt
   simp only
   rw [eB,eS,eN,z1,z2,z3,z4,z5,z6]
   simp
  rw [he]
  exact ⟨hcf,hcr,Int.le_refl _,Int.le_refl _,Int.le_refl _,fun _=>rfl⟩
end Go.Proofs.YtbbjlfbemibfcaaGreat.book
end
section
namespace Go.Proofs.YtbbjlfbemibfcaaGreat.book
set_option maxRecDepth 20000
open Go.Proofs.YtbbjlfbemibfcaaGreat.cell (Ce Ex)
open Go.Proofs.YtbbjlfbemibfcaaGreat.order (Or Nt open_ worth Took)
open Go.Proofs.YtbbjlfbemibfcaaGreat.rec (Rc)
open Go.Proofs.YtbbjlfbemibfcaaGreat.frame (inR)
theorem ids_set {os:List Or} {k:Nat} {o p:Or} (h:os[k]?=some o) (hi:p.i=o.i):(os.set k p).map Or.i=os.map Or.i:=by
 rw [List.map_set]
 apply List.ext_getElem?
 intro j
 rw [List.getElem?_set]
 split
 ·rename_i hj
  subst hj
  have hl:=(List.getElem?_eq_some_iff.1 h).1
  rw [if_pos (by simpa using hl),List.getElem?_map,h,hi]
  rfl
 ·rfl
theorem pair_ids {os:List Or} : os.Pairwise (fun o p=>o.i < p.i) ↔ (os.map Or.i).Pairwise (· < ·):=by rw [List.pairwise_map]
theorem ok_set {a y last:Int} {os:List Or} {k:Nat} {o p:Or} (h:OrdersOk a y last os) (hk:os[k]?=some o) (hp:order.Rightly p) (h3:p.h≠3) (hi:p.i=o.i) (ha:p.a=o.a) (hy:p.y=o.y):OrdersOk a y last (os.set k p):=by
 obtain ⟨h1,h2,h4⟩:=h
 have ho:=h1 o (List.mem_of_getElem? hk)
 refine ⟨fun q hq=>?_,?_,by simpa using h4⟩
 ·rcases List.mem_or_eq_of_mem_set hq with hq | rfl
  ·exact h1 q hq
  ·exact ⟨hp,h3,by rw [ha];exact ho.2.2.1,by rw [hy];exact ho.2.2.2.1,by rw [hi];exact ho.2.2.2.2⟩
 ·rw [pair_ids,ids_set hk hi,← pair_ids];exact h2
theorem ok_erase {a y last:Int} {os:List Or} {k:Nat} (h:OrdersOk a y last os):OrdersOk a y last (os.eraseIdx k):=by
 obtain ⟨h1,h2,h4⟩:=h
 have hs:=List.eraseIdx_sublist os k
 exact ⟨fun q hq=>h1 q (hs.subset hq),h2.sublist hs,by have:=hs.length_le;omega⟩
theorem ok_snoc {a y last:Int} {os:List Or} {o:Or} (h:OrdersOk a y last os) (hl:os.length < 64) (ho:order.Rightly o) (h3:o.h≠3) (ha:o.a < a) (hy:o.y < y) (hi:last < o.i):OrdersOk a y o.i (os++[o]):=by
 obtain ⟨h1,h2,h4⟩:=h
 refine ⟨fun q hq=>?_,?_,by simp;omega⟩
 ·rcases List.mem_append.1 hq with hq | hq
  ·have:=h1 q hq
   exact ⟨this.1,this.2.1,this.2.2.1,this.2.2.2.1,by omega⟩
  ·simp at hq;subst hq;exact ⟨ho,h3,ha,hy,Int.le_refl _⟩
 ·rw [List.pairwise_append]
  refine ⟨h2,by simp,fun q hq r hr=>?_⟩
  simp at hr;subst hr
  have:=(h1 q hq).2.2.2.2
  omega
theorem find_some {os:List Or} {id:Int} {k:Nat} (h:find os id=some k):∃ o,os[k]?=some o∧o.i=id:=by
 unfold find at h
 rw [List.findIdx?_eq_some_iff_getElem] at h
 obtain ⟨hk,h1,_⟩:=h
 exact ⟨os[k],List.getElem?_eq_getElem hk,by simpa using h1⟩
theorem getD_at {α:Type} {l:List α} {k:Nat} {x d:α} (h:l[k]?=some x):l.getD k d=x:=by
 rw [List.getD_eq_getElem?_getD,h];rfl
theorem moved_len (y:Int) (ps:List Int) (o:Or) (n:Nt):(moved y ps o n).length=ps.length:=by simp [moved]
theorem event_back {s:St} {os:List Or} {o:Or} {n:Nt} {d:Ce} {i:Nat} (h:(cellsOf s.y os (moved s.y (s.cs.map Ce.p) o n))[i]?=some d):∃ c,s.cs[i]?=some c:=by
 have hl:=(List.getElem?_eq_some_iff.1 h).1
 rw [cells_len,moved_len,List.length_map] at hl
 exact ⟨s.cs[i],List.getElem?_eq_getElem hl⟩
theorem event_right {s:St} (hs:Rightly s) {k:Nat} {o:Or} {n:Nt} {p:Or} (hk:s.os[k]?=some o) (ht:Took o n p) (hn:order.noteOk n=true) (hq:s.seq < n.z) :
  Rightly { s with seq:=n.z,os:=left_ s.os k p,cs:=cellsOf s.y (left_ s.os k p) (moved s.y (s.cs.map Ce.p) o n) }:=by
 have hs':=hs
 obtain ⟨h1,⟨h2,h2',h2''⟩,h3,h4,h5,h6,h7,h8⟩:=hs'
 have ho:=(h4.1 o (List.mem_of_getElem? hk)).1
 have hp:=order.took_right ho ht
 have hsame:=order.took_same ho ht
 have hz:=(order.noteOk_iff.1 hn).1
 have hlen:(cellsOf s.y (left_ s.os k p) (moved s.y (s.cs.map Ce.p) o n)).length=s.cs.length:=by rw [cells_len,moved_len,List.length_map]
 have hn0:∀ c ∈ s.cs,0≤c.n:=fun c hc=>(h7.2.1 c hc).2.2.2.2.2.2.2
 have hn1:∀ d ∈ cellsOf s.y (left_ s.os k p) (moved s.y (s.cs.map Ce.p) o n),d.fine∧cell.Rightly d:=fun d hd=>by
  obtain ⟨i,hi,rfl⟩:=List.getElem_of_mem hd
  have hi':=List.getElem?_eq_getElem hi
  obtain ⟨c,hc⟩:=event_back hi'
  obtain ⟨e,he,h9,h10,_⟩:=event_cell hs hk ht hn hc
  rw [hi'] at he
  rw [Option.some.inj he]
  exact ⟨h9,h10⟩
 refine ⟨h1,⟨by rw [show ((cellsOf s.y (left_ s.os k p) (moved s.y (s.cs.map Ce.p) o n)).length:Int)=s.cs.length by rw [hlen]];exact h2,h2',h2''⟩,⟨h3.1,h3.2.1,by simp only;omega,by simp only;omega,h3.2.2.2.2⟩,?_,h5,h6,⟨?_,hn1,?_⟩,by simp only;rw [cells_pos]⟩
 ·unfold left_
  split
  ·exact ok_erase h4
  ·rename_i h33;exact ok_set h4 hk hp h33 hsame.2.2.1 hsame.2.2.2.1 hsame.2.2.2.2.1
 ·intro q hq
  have hq' : q ∈ s.os∨q=p:=by
   simp only [left_] at hq
   split at hq
   ·exact .inl ((List.eraseIdx_sublist _ _).subset hq)
   ·exact List.mem_or_eq_of_mem_set hq
  rcases hq' with hq' | rfl
  ·exact h7.1 q hq'
  ·obtain ⟨b,hb,_⟩:=order.took_worth ho ht (a:=(worth o).1) (by rw [← h7.1 o (List.mem_of_getElem? hk)])
   rw [hb]
 ·intro j hj
  refine (acc_less hlen hn0 (fun d hd=>(hn1 d hd).2.2.2.2.2.2.2) (fun i c d hc hd=>?_) (h7.2.2 j hj)).1
  obtain ⟨e,he,_,_,_,_,h9,_⟩:=event_cell hs hk ht hn hc
  rw [hd] at he
  rw [Option.some.inj he]
  exact h9
theorem put_right {s:St} (hs:Rightly s) {os:List Or} {last:Int} (ho:OrdersOk s.a s.y last os) (hl:0≤last∧last≤1000000000000) (hf:Fits s.a s.y os (put s os).cs):Rightly { put s os with last:=last }:=by
 obtain ⟨h1,⟨h2,h2',h2''⟩,h3,h4,h5,h6,h7,h8⟩:=hs
 refine ⟨h1,⟨by simp only [put,cells_len,List.length_map];exact h2,h2',h2''⟩,⟨hl.1,hl.2,h3.2.2⟩,ho,h5,h6,hf,by simp only [put];rw [cells_pos]⟩
theorem ask_ok {s t:St} {os:List Or} {a y last:Int} (h:ask s os a y last=(t,0)):t = { put s os with last:=last }∧Fits s.a s.y os (put s os).cs∧stands s (put s os) a y=false:=by
 unfold ask at h
 split at h
 ·rename_i hf
  split at h
  ·simp at h
  ·rename_i hn
   simp only [Prod.mk.injEq,and_true] at h
   exact ⟨h.symm,hf,by simpa using hn⟩
 ·simp at h
end Go.Proofs.YtbbjlfbemibfcaaGreat.book
end
