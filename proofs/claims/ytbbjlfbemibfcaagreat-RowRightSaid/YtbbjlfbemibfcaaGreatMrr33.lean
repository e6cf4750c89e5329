/-
  zk9
-/
import Derived.Test.YtbbjlfbemibfcaaGreatMrr32
set_option linter.unusedVariables false
set_option linter.unusedSimpArgs false
namespace Go.Proofs.YtbbjlfbemibfcaaGreat.book
set_option maxRecDepth 20000
open Go.RowKit Go.Proofs.YtbbjlfbemibfcaaGreat
open Go.Proofs.YtbbjlfbemibfcaaGreat.order (Or Nt open_ worth oz yt)
open Go.Proofs.YtbbjlfbemibfcaaGreat.cell (Ce Ex turned)
open Go.Proofs.YtbbjlfbemibfcaaGreat.rec (Rc)
theorem q0b {s:St} {L:List Or} {k:Nat} (hs:aj s) (hk:k < s.cs.length) (h:∀ (i:Nat) (p:Int),i≠k→cellAt s.y i p L=cellAt s.y i p s.os):CL (wst s L)=s.cs.set k (cellAt s.y k (s.cs.getD k cz).p L):=by
 apply List.ext_getElem?
 intro i
 rcases Nat.lt_or_ge i s.cs.length with hi | hi
 ·have e:(CL (wst s L))[i]?=some (cellAt s.y i (s.cs.getD i cz).p L):=qo0 (s:=wst s L) hi
  rw [e,List.getElem?_set]
  by_cases hik:k=i
  ·subst hik;rw [if_pos rfl,if_pos hi]
  ·rw [if_neg hik,ou (z:=cz) hi,h i _ (fun e=>hik e.symm)]
   have:=(Yq hs (ou (z:=cz) hi)).1
   rw [← this]
 ·rw [List.getElem?_eq_none (by rw [P7];exact hi),List.getElem?_eq_none (by rw [List.length_set];exact hi)]
theorem N8 {y i:Int} {o:Or} (h:pl y o≠i):wB y i o=0∧wS y i o=0∧wN y i o=0:=by unfold wB wS wN;simp [h]
theorem qth {y k p:Int} {os L:List Or} {o o' : Or} (hB:sum (wB y k) L=sum (wB y k) os - wB y k o+wB y k o') (hS:sum (wS y k) L=sum (wS y k) os - wS y k o+wS y k o') (hN:sum (wN y k) L=sum (wN y k) os - wN y k o+wN y k o') (h1:pl y o=k) (h2:pl y o'=k) (hd:o'.d=o.d) :
  cellAt y k p L=turned (turned (cellAt y k p os) o.d (-(open_ o)) (-(worth o).1)) o'.d (open_ o') (worth o').1:=by
 unfold cellAt turned
 rw [hB,hS,hN,hd]
 by_cases h:o.d=1
 ·simp only [wB,wS,wN,h1,h2,hd,h,true_and,and_true,ne_eq,not_true_eq_false,and_false,if_true,if_false,Ce.mk.injEq];omega
 ·simp only [wB,wS,wN,h1,h2,hd,h,true_and,and_true,ne_eq,not_false_eq_true,and_false,if_true,if_false,Ce.mk.injEq];omega
theorem q0c {y k p:Int} {os:List Or} {o:Or} (h1:pl y o=k):cellAt y k p (os++[o])=turned (cellAt y k p os) o.d (open_ o) (worth o).1:=by
 unfold cellAt turned
 rw [qhr,qhr,qhr]
 by_cases h:o.d=1
 ·simp only [wB,wS,wN,h1,h,true_and,and_true,ne_eq,not_true_eq_false,and_false,if_true,if_false,Int.add_zero]
 ·simp only [wB,wS,wN,h1,h,true_and,and_true,ne_eq,not_false_eq_true,and_false,if_true,if_false,Int.add_zero]
theorem q6b (l:List Ce):(limit.whole l).2=0∨(limit.whole l).2=3:=by
 unfold limit.whole num.Pz;simp only;split<;>simp
theorem q6c {l:List Ce} (h:¬ (limit.whole l).2=0):(limit.whole l).2=3:=(q6b l).resolve_left h
theorem q6d {y:Int} {a b:Int} {j:Nat} {cs:List Ce} {X:Ce} (hy:1≤y) (ha:0≤a) (hb:0≤b∧b < y) (hj:(j:Int)≠a):acc y j (cs.set (place y a b) X)=acc y j cs:=by
 have e:((place y a b:Nat):Int)=a * y+b:=by
  unfold place;exact Int.toNat_of_nonneg (by have:=Int.mul_nonneg ha (show (0:Int)≤y by omega);omega)
 have hyn:((y.toNat:Nat):Int)=y:=Int.toNat_of_nonneg (by omega)
 have e2:((j * y.toNat:Nat):Int)=(j:Int) * y:=by rw [Int.natCast_mul,hyn]
 apply List.ext_getElem?
 intro i
 unfold acc
 rw [List.getElem?_take,List.getElem?_take]
 split
 ·rename_i hi
  rw [List.getElem?_drop,List.getElem?_drop,List.getElem?_set_ne]
  intro h
  have h3:a * y+b=(j:Int) * y+i:=by omega
  rcases Int.lt_or_gt_of_ne hj with h4 | h4
  ·have h5:((j:Int)+1) * y≤a * y:=Int.mul_le_mul_of_nonneg_right (by omega) (by omega)
   rw [Int.add_mul,Int.one_mul] at h5;omega
  ·have h5:(a+1) * y≤(j:Int) * y:=Int.mul_le_mul_of_nonneg_right (by omega) (by omega)
   rw [Int.add_mul,Int.one_mul] at h5;omega
 ·rfl
section
variable {s:St} {L:List Or} {o:Or} {X:Ce}
theorem q23 (hs:aj s) (ht:There s o.a o.y) (hC:CL (wst s L)=s.cs.set (place s.y o.a o.y) X) (hW:∀ p ∈ L,(worth p).2=0) (hX:X.fine∧cell.aj X) (hw:(limit.whole (acc s.y o.a.toNat (s.cs.set (place s.y o.a o.y) X))).2=0):qy (wst s L)=true:=by
 refine Uo.2 ⟨hW,fun c hc=>?_,fun j hj=>?_⟩
 ·rw [hC] at hc
  rcases List.mem_or_eq_of_mem_set hc with hc | rfl
  ·exact hs.2.2.2.2.2.2.1.2.1 c hc
  ·exact hX
 ·rw [hC]
  show (limit.whole (acc s.y j _)).2=0
  by_cases e:(j:Int)=o.a
  ·rw [show j=o.a.toNat by omega];exact hw
  ·rw [q6d hs.1.2.2.1 ht.1 ⟨ht.2.2.1,ht.2.2.2⟩ e];exact hs.2.2.2.2.2.2.1.2.2 j hj
theorem qmg (hs:aj s) (ht:There s o.a o.y) (hC:CL (wst s L)=s.cs.set (place s.y o.a o.y) X) (h:qy (wst s L)=true):(∀ p ∈ L,(worth p).2=0)∧(X.fine∧cell.aj X)∧(limit.whole (acc s.y o.a.toNat (s.cs.set (place s.y o.a o.y) X))).2=0:=by
 have hf:=Uo.1 h
 have hp:=(Dc (Lens.of hs) ht).2
 refine ⟨hf.1,?_,?_⟩
 ·refine hf.2.1 X ?_
  rw [hC]
  exact List.mem_of_getElem? (i:=place s.y o.a o.y) (by rw [List.getElem?_set,if_pos rfl,if_pos hp])
 ·have:=hf.2.2 o.a.toNat (by have g1:=ht.1;have g2:=ht.2.1;rw [List.mem_range];show o.a.toNat < s.a.toNat;omega)
  rw [hC] at this;exact this
theorem qti (hs:aj s) (ht:There s o.a o.y) (hC:CL (wst s L)=s.cs.set (place s.y o.a o.y) X) (hW:∀ p ∈ L,(worth p).2=0) (hX:X.fine∧cell.aj X) (la:Int) :
  Gt s o X=(ask s L o.a o.y la).2∧((ask s L o.a o.y la).2=0→({ s with os:=L,cs:=s.cs.set (place s.y o.a o.y) X,last:=la } : St)=(ask s L o.a o.y la).1):=by
 have hp:=(Dc (Lens.of hs) ht).2
 have hcs:(put s L).cs=s.cs.set (place s.y o.a o.y) X:=hC
 have hc0:=(hs.2.2.2.2.2.2.1.2.1 _ (l7 (z:=cz) hp)).2
 have hg:(s.cs.set (place s.y o.a o.y) X).getD (place s.y o.a o.y) cz=X:=getD_at (by rw [List.getElem?_set,if_pos rfl,if_pos hp])
 have e1:(vk { s with cs:=s.cs.set (place s.y o.a o.y) X } o)=((cell.Ba X).1,(limit.whole (acc s.y o.a.toNat (s.cs.set (place s.y o.a o.y) X))).1,(limit.whole (acc s.y o.a.toNat (s.cs.set (place s.y o.a o.y) X))).2):=by
  unfold vk
  simp only
  rw [hg,if_pos (by unfold cell.Ba;rw [if_pos (cell.dh.2 hX.2)])]
 have e0:(vk s o)=((cell.Ba (s.cs.getD (place s.y o.a o.y) cz)).1,(limit.whole (acc s.y o.a.toNat s.cs)).1,(limit.whole (acc s.y o.a.toNat s.cs)).2):=qin (by unfold cell.Ba;rw [if_pos (cell.dh.2 hc0)])
 by_cases hw:(limit.whole (acc s.y o.a.toNat (s.cs.set (place s.y o.a o.y) X))).2=0
 ·have hok:=q23 hs ht hC hW hX hw
  have hst:stands s (put s L) o.a o.y=(limit.against (vk s o).1 (vk { s with cs:=s.cs.set (place s.y o.a o.y) X } o).1 (s.ls.getD (place s.y o.a o.y) xz) || limit.cap (vk s o).2.1 (vk { s with cs:=s.cs.set (place s.y o.a o.y) X } o).2.1 (s.ps.getD o.a.toNat 0)):=by
   unfold stands
   rw [e0,e1,hcs,hg]
  have hg0:(vk { s with cs:=s.cs.set (place s.y o.a o.y) X } o).2.2=0:=by rw [e1];exact hw
  cases hb:stands s (put s L) o.a o.y with
  |true =>
   rw [q5j hok hb]
   rw [hst,Bool.or_eq_true] at hb
   exact ⟨qtg hg0 hb,fun h=>by simp at h⟩
  |false =>
   rw [q2c hok hb]
   rw [hst,Bool.or_eq_false_iff] at hb
   refine ⟨q0a hg0 hb.1 hb.2,fun _=>?_⟩
   rw [q7z,hC]
 ·have hno:qy (wst s L)=false:=by
   cases hh:qy (wst s L) with
   |false=>rfl
   |true=>exact absurd (qmg hs ht hC hh).2.2 hw
  rw [qsv hno]
  have h3:=q6c hw
  refine ⟨?_,fun h=>by simp at h⟩
  rw [qz9 (by rw [e1];exact hw),e1];exact h3
theorem qtj (hs:aj s) (ht:There s o.a o.y) (hC:CL (wst s L)=s.cs.set (place s.y o.a o.y) X) (h:¬ ((∀ p ∈ L,(worth p).2=0)∧X.fine∧cell.aj X)) (la:Int):ask s L o.a o.y la=(s,3):=by
 refine qsv ?_
 cases hh:qy (wst s L) with
 |false=>rfl
 |true=>exact absurd ⟨(qmg hs ht hC hh).1,(qmg hs ht hC hh).2.1⟩ h
theorem qpe (hs:aj s) (ht:There s o.a o.y):pl s.y o=((place s.y o.a o.y:Nat):Int):=by
 have h1:=qim (Lens.of hs).1 ht
 have h2:=Dc (Lens.of hs) ht
 unfold pl;omega
end
section
variable {s:St} {r:Rc}
theorem q24 {y:Int} {os:List Or} {o:Or} {i:Int} (p:Int) (h:pl y o≠i):cellAt y i p (os++[o])=cellAt y i p os:=by
 unfold cellAt
 rw [qhr,qhr,qhr,(N8 h).1,(N8 h).2.1,(N8 h).2.2]
 simp
theorem qtk (hs:aj s) (hk:r.k=1) (hr:rec.right r=true) (hra:r.a < s.a∧r.y < s.y):CL (wst s (s.os++[(order.jl r).1]))=s.cs.set (place s.y (order.jl r).1.a (order.jl r).1.y) (turned (s.cs.getD (place s.y (order.jl r).1.a (order.jl r).1.y) cz) (order.jl r).1.d (open_ (order.jl r).1) (worth (order.jl r).1).1):=by
 have ht:=qia hk hr hra
 have hp:=Dc (Lens.of hs) ht
 have hpl:=qpe hs ht
 rw [q0b hs hp.2 (fun i p hi=>q24 p (by rw [hpl];omega)),q0c hpl,← (Yq hs (ou (z:=cz) hp.2)).1]
theorem qre (hk:r.k=1) (hr:rec.right r=true):(order.jl r).1.i=r.o∧(order.jl r).1.a=r.a∧(order.jl r).1.y=r.y:=by
 have hb:order.jl r=(⟨r.o,r.a,r.y,r.d,r.q,r.p,0,1,0,0,0,false⟩,0):=by unfold order.jl;rw [if_pos ⟨hk,hr⟩]
 rw [hb];exact ⟨rfl,rfl,rfl⟩
theorem qjr {c:Ce} {o:Or} (hc:cell.aj c) (ho:order.aj o):(cell.come c o).2=0 ↔ (worth o).2=0∧(turned c o.d (open_ o) (worth o).1).fine∧cell.aj (turned c o.d (open_ o) (worth o).1):=by
 constructor
 ·intro h
  have:=cell.qms (d:=(cell.come c o).1) (by rw [← h])
  rw [this.1] at this
  exact ⟨this.2.2.2.1,this.2.2.2.2.1,this.2.2.2.2.2⟩
 ·rintro ⟨h1,h2,h3⟩
  unfold cell.come
  rw [cell.dh.2 hc,order.dh.2 ho,if_neg (by simp),if_neg (by simp [h1]),cell.Rj.2 ⟨rfl,h2,h3⟩]
theorem Jr {c:Ce} {o:Or} (h:(cell.come c o).2=0):(cell.come c o).1=turned c o.d (open_ o) (worth o).1:=(cell.qms (d:=(cell.come c o).1) (by rw [← h])).1
theorem qgp (hs:aj s) (hk:r.k=1) (hr:rec.right r=true) (hra:r.a < s.a∧r.y < s.y) (hk0:s.k=false) (hl:¬ 64≤s.os.length) (h:¬ (cell.come (s.cs.getD (place s.y (order.jl r).1.a (order.jl r).1.y) cz) (order.jl r).1).2=0):doing s r=(s,3):=by
 have ht:=qia hk hr hra
 have hp:=Dc (Lens.of hs) ht
 have hc:=(hs.2.2.2.2.2.2.1.2.1 _ (l7 (z:=cz) hp.2)).2
 have hb:=qre hk hr
 rw [qq5 hk hk0 hl,← hb.2.1,← hb.2.2]
 refine qtj hs ht (qtk hs hk hr hra) (fun hh=>h ?_) _
 exact (qjr hc (qn3 hk hr).1).2 ⟨hh.1 _ (by simp),hh.2⟩
theorem Qr (hs:aj s) (hk:r.k=1) (hr:rec.right r=true) (hra:r.a < s.a∧r.y < s.y) (hk0:s.k=false) (hl:¬ 64≤s.os.length) (h:(cell.come (s.cs.getD (place s.y (order.jl r).1.a (order.jl r).1.y) cz) (order.jl r).1).2=0) :
  Gt (bs s r) (order.jl r).1 (cell.come (s.cs.getD (place s.y (order.jl r).1.a (order.jl r).1.y) cz) (order.jl r).1).1=(doing s r).2∧((doing s r).2=0 → { bs s r with cs:=s.cs.set (place s.y (order.jl r).1.a (order.jl r).1.y) (cell.come (s.cs.getD (place s.y (order.jl r).1.a (order.jl r).1.y) cz) (order.jl r).1).1 }=(doing s r).1):=by
 have ht:=qia hk hr hra
 have hp:=Dc (Lens.of hs) ht
 have hc:=(hs.2.2.2.2.2.2.1.2.1 _ (l7 (z:=cz) hp.2)).2
 have hb:=qre hk hr
 have hi:=(qjr hc (qn3 hk hr).1).1 h
 have e1:=Jr h
 have key:=qti (L:=s.os++[(order.jl r).1]) hs ht (qtk hs hk hr hra) (fun p hp=>by
  rcases List.mem_append.1 hp with hp | hp
  ·exact hs.2.2.2.2.2.2.1.1 p hp
  ·rw [List.mem_singleton.1 hp];exact hi.1) hi.2 r.o
 rw [qq5 hk hk0 hl,e1,← hb.2.1,← hb.2.2]
 refine ⟨key.1,fun h0=>?_⟩
 rw [← key.2 h0]
 simp only [bs,hb.1]
theorem go_ok {c:Ce} {o:Or} (hf:c.fine) (hc:cell.aj c) (ho:order.aj o) (hw:(worth o).2=0) (h1:o.d=1→open_ o≤c.b) (h2:¬ o.d=1→open_ o≤c.s) (h3:(worth o).1≤c.n):cell.go c o=(turned c o.d (-(open_ o)) (-(worth o).1),0)∧(turned c o.d (-(open_ o)) (-(worth o).1)).fine∧cell.aj (turned c o.d (-(open_ o)) (-(worth o).1)):=by
 have g0:=cell.Yk ho
 have g1:=cell.qji ho
 have key:(turned c o.d (-(open_ o)) (-(worth o).1)).fine∧cell.aj (turned c o.d (-(open_ o)) (-(worth o).1)):=by
  obtain ⟨p,b,s,n⟩:=c
  unfold turned
  unfold Ce.fine frame.jh at *
  unfold cell.aj at *
  by_cases hd:o.d=1
  ·have:=h1 hd
   simp only [hd,if_true] at *;omega
  ·have:=h2 hd
   simp only [hd,if_false] at *;omega
 refine ⟨?_,key⟩
 unfold cell.go
 rw [cell.dh.2 hc,order.dh.2 ho,if_neg (by simp),if_neg (by simp [hw]),cell.Rj.2 ⟨rfl,key⟩]
theorem q25 {c:Ce} {d:Int} (hf:c.fine) (hc:cell.aj c) (hd:d=1∨d=2):cell.did c d 0=(c,0):=by
 unfold cell.did cell.moved
 rw [cell.dh.2 hc,if_neg (by simp;omega)]
 have e:(⟨if d=2 then c.p - 0 else c.p+0,c.b,c.s,c.n⟩:Ce)=c:=by
  obtain ⟨p,b,s,n⟩:=c
  by_cases h:d=2<;>simp [h]
 rw [e]
 exact cell.Rj.2 ⟨rfl,hf,hc⟩
theorem qvr (hs:aj s) {k:Nat} (hk:k < s.os.length) (hC:s.cs.getD (place s.y (s.os.getD k oz).a (s.os.getD k oz).y) cz=s.cs.getD (place s.y (s.os.getD k oz).a (s.os.getD k oz).y) cz) :
  ((s.os.getD k oz).d=1→open_ (s.os.getD k oz)≤(s.cs.getD (place s.y (s.os.getD k oz).a (s.os.getD k oz).y) cz).b)∧(¬ (s.os.getD k oz).d=1→open_ (s.os.getD k oz)≤(s.cs.getD (place s.y (s.os.getD k oz).a (s.os.getD k oz).y) cz).s)∧(worth (s.os.getD k oz)).1≤(s.cs.getD (place s.y (s.os.getD k oz).a (s.os.getD k oz).y) cz).n:=by
 have ht:=qo hs hk
 have hp:=Dc (Lens.of hs) ht
 have hpl:=qpe hs ht
 have hos:∀ q ∈ s.os,order.aj q:=fun q hq=>(hs.2.2.2.1.1 q hq).1
 have hat:=ou (z:=oz) hk
 have hc:=(Yq hs (ou (z:=cz) hp.2)).1
 have gB:=Yp (w:=wB s.y ((place s.y (s.os.getD k oz).a (s.os.getD k oz).y:Nat):Int)) (fun q hq=>qrr (hos q hq)) hat
 have gS:=Yp (w:=wS s.y ((place s.y (s.os.getD k oz).a (s.os.getD k oz).y:Nat):Int)) (fun q hq=>qrs (hos q hq)) hat
 have gN:=Yp (w:=wN s.y ((place s.y (s.os.getD k oz).a (s.os.getD k oz).y:Nat):Int)) (fun q hq=>qrt (hos q hq)) hat
 have eb:=congrArg Ce.b hc
 have es:=congrArg Ce.s hc
 have en:=congrArg Ce.n hc
 simp only [cellAt] at eb es en
 refine ⟨fun hd=>?_,fun hd=>?_,?_⟩
 ·rw [eb];unfold wB at gB;rw [if_pos ⟨hpl,hd⟩] at gB;exact gB
 ·rw [es];unfold wS at gS;rw [if_pos ⟨hpl,hd⟩] at gS;exact gS
 ·rw [en];unfold wN at gN;rw [if_pos hpl] at gN;exact gN
def cO (s:St) (r:Rc):Or:=(order.change (s.os.getD (fk s.os r.o) oz) r.q r.p).1
def cC (s:St) (r:Rc):Ce × Int:=Ji (s.cs.getD (place s.y (cO s r).a (cO s r).y) cz) (s.os.getD (fk s.os r.o) oz) (cO s r) 0
theorem qjs (h:(order.change (s.os.getD (fk s.os r.o) oz) r.q r.p).2=0):(cO s r).d=(s.os.getD (fk s.os r.o) oz).d∧(cO s r).a=(s.os.getD (fk s.os r.o) oz).a∧(cO s r).y=(s.os.getD (fk s.os r.o) oz).y∧order.aj (cO s r):=by
 have hc:order.change (s.os.getD (fk s.os r.o) oz) r.q r.p=(cO s r,0):=by unfold cO;rw [← h]
 have h2:=(order.qj1 hc).2.2.2.2.2.2.2.2
 have h1:=order.ql3 hc
 exact ⟨by rw [h2],by rw [h2],by rw [h2],h1⟩
theorem Ik (hs:aj s) (hf:¬ Aa s.os r.o = -1) (h:(order.change (s.os.getD (fk s.os r.o) oz) r.q r.p).2=0):There s (cO s r).a (cO s r).y:=by
 have hd:=qjs h
 rw [hd.2.1,hd.2.2.1]
 exact qo hs (Ak (Am hf)).2.1
theorem q6e {y:Int} {os:List Or} {k:Nat} {o o' : Or} {i:Int} (p:Int) (hk:os[k]?=some o) (h:pl y o≠i) (h' : pl y o'=pl y o):cellAt y i p (os.set k o')=cellAt y i p os:=by
 have h2:pl y o'≠i:=by rw [h'];exact h
 unfold cellAt
 rw [Vj _ _ _ _ _ hk,Vj _ _ _ _ _ hk,Vj _ _ _ _ _ hk,(N8 h).1,(N8 h).2.1,(N8 h).2.2,(N8 h2).1,(N8 h2).2.1,(N8 h2).2.2]
 simp
theorem qrf (hs:aj s) (hf:¬ Aa s.os r.o = -1) (h:(order.change (s.os.getD (fk s.os r.o) oz) r.q r.p).2=0):CL (wst s (s.os.set (fk s.os r.o) (cO s r)))=s.cs.set (place s.y (cO s r).a (cO s r).y) (turned (turned (s.cs.getD (place s.y (cO s r).a (cO s r).y) cz) (s.os.getD (fk s.os r.o) oz).d (-(open_ (s.os.getD (fk s.os r.o) oz))) (-(worth (s.os.getD (fk s.os r.o) oz)).1)) (cO s r).d (open_ (cO s r)) (worth (cO s r)).1):=by
 have hk:=(Ak (Am hf)).2.1
 have hd:=qjs h
 have ht:=Ik hs hf h
 have hp:=Dc (Lens.of hs) ht
 have hpl:=qpe hs ht
 have hat:=ou (z:=oz) hk
 have hpo:pl s.y (s.os.getD (fk s.os r.o) oz)=((place s.y (cO s r).a (cO s r).y:Nat):Int):=by rw [← hpl];unfold pl;rw [hd.2.1,hd.2.2.1]
 rw [q0b hs hp.2 (fun i p hi=>q6e p hat (by rw [hpo];omega) (by rw [hpl,hpo])),qth (o:=s.os.getD (fk s.os r.o) oz) (o':=cO s r) (os:=s.os) (Vj _ _ _ _ _ hat) (Vj _ _ _ _ _ hat) (Vj _ _ _ _ _ hat) hpo hpl hd.1,← (Yq hs (ou (z:=cz) hp.2)).1]
theorem qmh (hs:aj s) (hf:¬ Aa s.os r.o = -1) (h:(order.change (s.os.getD (fk s.os r.o) oz) r.q r.p).2=0) :
  cC s r=cell.come (turned (s.cs.getD (place s.y (cO s r).a (cO s r).y) cz) (s.os.getD (fk s.os r.o) oz).d (-(open_ (s.os.getD (fk s.os r.o) oz))) (-(worth (s.os.getD (fk s.os r.o) oz)).1)) (cO s r)∧cell.aj (turned (s.cs.getD (place s.y (cO s r).a (cO s r).y) cz) (s.os.getD (fk s.os r.o) oz).d (-(open_ (s.os.getD (fk s.os r.o) oz))) (-(worth (s.os.getD (fk s.os r.o) oz)).1)):=by
 have hk:=(Ak (Am hf)).2.1
 have hd:=qjs h
 have hp:=Dc (Lens.of hs) (qo hs hk)
 have hic:=qvr hs hk rfl
 have ho:=hs.2.2.2.1.1 _ (l7 (z:=oz) hk)
 have hw:=hs.2.2.2.2.2.2.1.1 _ (l7 (z:=oz) hk)
 unfold cC
 rw [hd.2.1,hd.2.2.1]
 have hc:=hs.2.2.2.2.2.2.1.2.1 _ (l7 (z:=cz) hp.2)
 have hg:=go_ok hc.1 hc.2 ho.1 hw hic.1 hic.2.1 hic.2.2
 have hside:(s.os.getD (fk s.os r.o) oz).d=1∨(s.os.getD (fk s.os r.o) oz).d=2:=by have:=ho.1;unfold order.aj at this;omega
 have hdd:=q25 hg.2.1 hg.2.2 hside
 refine ⟨?_,hg.2.2⟩
 rw [qp4 (by rw [hg.1]) (by rw [hg.1];simp only;rw [hdd]),hg.1]
 simp only
 rw [hdd]
theorem qkb (hs:aj s) (hk:r.k=2) (hk0:s.k=false) (hf:¬ Aa s.os r.o = -1) (h:(order.change (s.os.getD (fk s.os r.o) oz) r.q r.p).2=0) (h2:¬ (cC s r).2=0):doing s r=(s,3):=by
 have hd:=qjs h
 have ha:=qmh hs hf h
 have ht:=Ik hs hf h
 have hkl:=(Ak (Am hf)).2.1
 rw [qq6 hk (Am hf) h hk0,← hd.2.1,← hd.2.2.1]
 refine qtj (o:=cO s r) hs ht (qrf hs hf h) (fun hh=>h2 ?_) _
 rw [ha.1]
 refine (qjr ha.2 hd.2.2.2).2 ⟨hh.1 _ ?_,hh.2⟩
 exact List.mem_of_getElem? (i:=fk s.os r.o) (by rw [List.getElem?_set,if_pos rfl,if_pos hkl])
theorem qf3 (hs:aj s) (hk:r.k=2) (hk0:s.k=false) (hf:¬ Aa s.os r.o = -1) (h:(order.change (s.os.getD (fk s.os r.o) oz) r.q r.p).2=0) (h2:(cC s r).2=0) :
  Gt { s with os:=s.os.set (fk s.os r.o) (cO s r) } (cO s r) (cC s r).1=(doing s r).2∧((doing s r).2=0 → { s with os:=s.os.set (fk s.os r.o) (cO s r),cs:=s.cs.set (place s.y (cO s r).a (cO s r).y) (cC s r).1 }=(doing s r).1):=by
 have hd:=qjs h
 have ha:=qmh hs hf h
 have ht:=Ik hs hf h
 rw [ha.1] at h2 ⊢
 have hi:=(qjr ha.2 hd.2.2.2).1 h2
 rw [Jr h2]
 have key:=qti (o:=cO s r) (L:=s.os.set (fk s.os r.o) (cO s r)) hs ht (qrf hs hf h) (fun p hp=>by
  rcases List.mem_or_eq_of_mem_set hp with hp | rfl
  ·exact hs.2.2.2.2.2.2.1.1 p hp
  ·exact hi.1) hi.2 s.last
 rw [qq6 hk (Am hf) h hk0,← hd.2.1,← hd.2.2.1]
 exact ⟨key.1,fun h0=>(key.2 h0)⟩
def eC (s:St) (r:Rc):Ce × Int:=Ji (s.cs.getD (place s.y (ep s r).a (ep s r).y) cz) (eo s r) (ep s r) (Ar r)
theorem qtl (hs:aj s) (hr:rec.right r=true) (k6:r.k=6) (h:r.z - 1=s.seq) (hf:¬ Aa s.os r.o = -1) (h2:(order.take (eo s r) (nt r)).2=0) :
  eC s r=(cellAt s.y (place s.y (ep s r).a (ep s r).y) ((s.cs.getD (place s.y (ep s r).a (ep s r).y) cz).p+shift (eo s r) (nt r)) (Dq s.os (fk s.os r.o) (ep s r)),0):=by
 have hfn:=Am hf
 have hk:=(Ak hfn).2.1
 have hsm:=qpz h2
 have htk:=qm0 h2
 have hno:=q2d hr k6
 have hat:=q4j hfn
 have ht0:There s (eo s r).a (eo s r).y:=qo hs hk
 have ht:There s (ep s r).a (ep s r).y:=by rw [hsm.1,hsm.2.1];exact ht0
 have hp:=Dc (Lens.of hs) ht
 have hpl:=qpe hs ht
 have hpo:pl s.y (eo s r)=((place s.y (ep s r).a (ep s r).y:Nat):Int):=by rw [← hpl];unfold pl;rw [hsm.1,hsm.2.1]
 have hic:((eo s r).d=1→open_ (eo s r)≤(s.cs.getD (place s.y (ep s r).a (ep s r).y) cz).b)∧(¬ (eo s r).d=1→open_ (eo s r)≤(s.cs.getD (place s.y (ep s r).a (ep s r).y) cz).s)∧(worth (eo s r)).1≤(s.cs.getD (place s.y (ep s r).a (ep s r).y) cz).n:=by
  rw [hsm.1,hsm.2.1];exact qvr hs hk rfl
 have ho:=htk.1
 have Uz:=order.Yj ho htk.2
 have hw:=hs.2.2.2.2.2.2.1.1 _ (List.mem_of_getElem? hat)
 have hc:=hs.2.2.2.2.2.2.1.2.1 _ (l7 (z:=cz) hp.2)
 have hg:=go_ok hc.1 hc.2 ho hw hic.1 hic.2.1 hic.2.2
 obtain ⟨wp,hwp,_⟩:=order.qk6 ho htk.2 (a:=(worth (eo s r)).1) (by rw [← hw])
 have zlc:(worth (ep s r)).2=0:=by rw [hwp]
 obtain ⟨d,hd,hdf,hdr,_⟩:=qk8 hs hat htk.2 hno (ou (z:=cz) hp.2)
 have hmv:(moved s.y (s.cs.map Ce.p) (eo s r) (nt r))[place s.y (ep s r).a (ep s r).y]?=some ((s.cs.getD (place s.y (ep s r).a (ep s r).y) cz).p+shift (eo s r) (nt r)):=by
  unfold moved
  rw [List.getElem?_mapIdx,List.getElem?_map,ou (z:=cz) hp.2]
  simp [hpo]
 have hd2:=qht (y:=s.y) (os:=Dq s.os (fk s.os r.o) (ep s r)) hmv
 rw [hd2] at hd
 have hd:=(Option.some.inj hd).symm
 have lB:=Vk (w:=wB s.y ((place s.y (ep s r).a (ep s r).y:Nat):Int)) (p:=ep s r) hat (fun h3=>(Vl (y:=s.y) Uz h3).1)
 have lS:=Vk (w:=wS s.y ((place s.y (ep s r).a (ep s r).y:Nat):Int)) (p:=ep s r) hat (fun h3=>(Vl (y:=s.y) Uz h3).2.1)
 have lN:=Vk (w:=wN s.y ((place s.y (ep s r).a (ep s r).y:Nat):Int)) (p:=ep s r) hat (fun h3=>(Vl (y:=s.y) Uz h3).2.2)
 have e2:=qth (p:=(s.cs.getD (place s.y (ep s r).a (ep s r).y) cz).p+shift (eo s r) (nt r)) lB lS lN hpo hpl hsm.2.2
 have hce:=(Yq hs (ou (z:=cz) hp.2)).1
 have hside:(eo s r).d=1∨(eo s r).d=2:=by have:=ho;unfold order.aj at this;omega
 have hq:0≤Ar r:=by
  unfold Ar;split
  ·rename_i h3
   have hq:=(order.Xb.1 hno).2.2
   have h3' : (nt r).t=3:=h3
   rw [h3'] at hq
   have:=(order.qih hq).1
   have e:(nt r).q=r.q:=rfl
   omega
  ·omega
 have hsh:shift (eo s r) (nt r)=if (eo s r).d=1 then Ar r else -(Ar r):=by
  unfold shift Ar nt;simp only
  split<;>split<;>simp_all
 have hM:cell.moved (turned (s.cs.getD (place s.y (ep s r).a (ep s r).y) cz) (eo s r).d (-(open_ (eo s r))) (-(worth (eo s r)).1)) (eo s r).d (Ar r)=turned (cellAt s.y (place s.y (ep s r).a (ep s r).y) ((s.cs.getD (place s.y (ep s r).a (ep s r).y) cz).p+shift (eo s r) (nt r)) s.os) (eo s r).d (-(open_ (eo s r))) (-(worth (eo s r)).1):=by
  have eb:=congrArg Ce.b hce
  have es:=congrArg Ce.s hce
  have en:=congrArg Ce.n hce
  rw [hsh]
  unfold cell.moved turned cellAt
  simp only [cellAt] at eb es en
  rcases hside with h1 | h1
  ·simp only [h1,if_true,show ¬ (1:Int)=2 by decide,if_false,Ce.mk.injEq,true_and,and_true];omega
  ·simp only [h1,if_true,show ¬ (2:Int)=1 by decide,if_false,Ce.mk.injEq,true_and,and_true];omega
 have hon:=cell.Yk Uz
 have hwn:=cell.qji Uz
 rw [hd] at hdf hdr
 rw [e2] at hdf hdr
 have hMr:(cell.moved (turned (s.cs.getD (place s.y (ep s r).a (ep s r).y) cz) (eo s r).d (-(open_ (eo s r))) (-(worth (eo s r)).1)) (eo s r).d (Ar r)).fine∧cell.aj (cell.moved (turned (s.cs.getD (place s.y (ep s r).a (ep s r).y) cz) (eo s r).d (-(open_ (eo s r))) (-(worth (eo s r)).1)) (eo s r).d (Ar r)):=by
  have hgf:=hg.2.1
  have hgr:=hg.2.2
  rw [← hM,hsm.2.2] at hdf hdr
  generalize (turned (s.cs.getD (place s.y (ep s r).a (ep s r).y) cz) (eo s r).d (-(open_ (eo s r))) (-(worth (eo s r)).1))=G at *
  generalize open_ (ep s r)=x at *
  generalize (worth (ep s r)).1=z at *
  generalize (eo s r).d=dd at *
  generalize Ar r=qq at *
  clear e2 lB lS lN hM hd hd2 hmv hce hsh hic hg
  obtain ⟨p,b,sl,n⟩:=G
  unfold cell.moved turned at *
  unfold Ce.fine frame.jh at *
  unfold cell.aj at *
  rcases hside with rfl | rfl
  ·simp only [if_true,show ¬ (1:Int)=2 by decide,if_false] at *;omega
  ·simp only [if_true,show ¬ (2:Int)=1 by decide,if_false] at *;omega
 have zd2:cell.did (turned (s.cs.getD (place s.y (ep s r).a (ep s r).y) cz) (eo s r).d (-(open_ (eo s r))) (-(worth (eo s r)).1)) (eo s r).d (Ar r)=(cell.moved (turned (s.cs.getD (place s.y (ep s r).a (ep s r).y) cz) (eo s r).d (-(open_ (eo s r))) (-(worth (eo s r)).1)) (eo s r).d (Ar r),0):=by
  unfold cell.did
  rw [cell.dh.2 hg.2.2,if_neg (by simp;omega)]
  exact cell.Rj.2 ⟨rfl,hMr⟩
 unfold eC
 rw [qp4 (by rw [hg.1]) (by rw [hg.1];simp only;rw [zd2]),hg.1]
 simp only
 rw [zd2]
 simp only
 have Xr:=(qjr hMr.2 Uz).2 ⟨zlc,by rw [hM];exact ⟨hdf,hdr⟩⟩
 refine Prod.ext ?_ Xr
 rw [Jr Xr,hM,e2]
theorem qxz (hs:aj s) (hr:rec.right r=true) (k6:r.k=6) (h:r.z - 1=s.seq) (hf:¬ Aa s.os r.o = -1) (h2:(order.take (eo s r) (nt r)).2=0):(eC s r).2=0:=by rw [qtl hs hr k6 h hf h2]
theorem q6f (hs:aj s) (hr:rec.right r=true) (k6:r.k=6) (h:r.z - 1=s.seq) (hf:¬ Aa s.os r.o = -1) (h2:(order.take (eo s r) (nt r)).2=0):{ sz s r with cs:=s.cs.set (place s.y (ep s r).a (ep s r).y) (eC s r).1,os:=Dq s.os (fk s.os r.o) (ep s r) }=q4i s r:=by
 rw [qtl hs hr k6 h hf h2]
 have key:s.cs.set (place s.y (ep s r).a (ep s r).y) (cellAt s.y (place s.y (ep s r).a (ep s r).y) ((s.cs.getD (place s.y (ep s r).a (ep s r).y) cz).p+shift (eo s r) (nt r)) (Dq s.os (fk s.os r.o) (ep s r)))=cellsOf s.y (Dq s.os (fk s.os r.o) (ep s r)) (moved s.y (s.cs.map Ce.p) (eo s r) (nt r)):=by
  have hfn:=Am hf
  have hk:=(Ak hfn).2.1
  have hsm:=qpz h2
  have htk:=qm0 h2
  have hat:=q4j hfn
  have Uz:=order.Yj htk.1 htk.2
  have ht:There s (ep s r).a (ep s r).y:=by rw [hsm.1,hsm.2.1];exact qo hs hk
  have hp:=Dc (Lens.of hs) ht
  have hpl:=qpe hs ht
  have hpo:pl s.y (eo s r)=((place s.y (ep s r).a (ep s r).y:Nat):Int):=by rw [← hpl];unfold pl;rw [hsm.1,hsm.2.1]
  apply List.ext_getElem?
  intro i
  rw [List.getElem?_set]
  by_cases hi:i < s.cs.length
  ·have hm:(moved s.y (s.cs.map Ce.p) (eo s r) (nt r))[i]?=some (if pl s.y (eo s r)=i then (s.cs.getD i cz).p+shift (eo s r) (nt r) else (s.cs.getD i cz).p):=by
    unfold moved
    rw [List.getElem?_mapIdx,List.getElem?_map,ou (z:=cz) hi];rfl
   have hc:=qht (y:=s.y) (os:=Dq s.os (fk s.os r.o) (ep s r)) hm
   rw [hc]
   by_cases e:place s.y (ep s r).a (ep s r).y=i
   ·subst e
    rw [if_pos rfl,if_pos hi,if_pos hpo]
   ·have hne:pl s.y (eo s r)≠(i:Int):=by rw [hpo];omega
    have hne2:pl s.y (ep s r)≠(i:Int):=by rw [hpl];omega
    rw [if_neg e,if_neg hne,ou (z:=cz) hi]
    have hci:=(Yq hs (ou (z:=cz) hi)).1
    have lB:=Vk (w:=wB s.y (i:Int)) (p:=ep s r) hat (fun h3=>(Vl (y:=s.y) Uz h3).1)
    have lS:=Vk (w:=wS s.y (i:Int)) (p:=ep s r) hat (fun h3=>(Vl (y:=s.y) Uz h3).2.1)
    have lN:=Vk (w:=wN s.y (i:Int)) (p:=ep s r) hat (fun h3=>(Vl (y:=s.y) Uz h3).2.2)
    rw [(N8 hne).1,(N8 hne2).1] at lB
    rw [(N8 hne).2.1,(N8 hne2).2.1] at lS
    rw [(N8 hne).2.2,(N8 hne2).2.2] at lN
    congr 1
    rw [hci]
    unfold cellAt
    simp only
    rw [lB,lS,lN]
    simp
  ·rw [if_neg (by omega),List.getElem?_eq_none (by omega),List.getElem?_eq_none (by rw [qij,ql6,List.length_map];omega)]
 simp only
 rw [key]
 rfl
end
end Go.Proofs.YtbbjlfbemibfcaaGreat.book
