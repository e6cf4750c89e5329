/-
  VenW
-/
import Derived.Test.YtcpahggkioagkaaMvf48
set_option linter.unusedVariables false
set_option linter.unusedSimpArgs false
namespace Go.Proofs.Ytcpahggkioagkaa.venue
set_option maxRecDepth 20000
open Go.RowKit Go.Proofs.Ytcpahggkioagkaa
open Go.Proofs.Ytcpahggkioagkaa.order (Or oz open_ Rightly)
def scStep (n:order.Nt) (r:Int × Int × Bool):Int × Int × Bool :=
 if n.t=1∨n.t=2 then (r.1,r.2.1+1,decide (n.t=2)) else if n.t=3 then (r.1+n.q,r.2.1,r.2.2) else if n.t=4 then (r.1,r.2.1,true) else r
def scU (id:Int) (ns:List order.Nt):Nat→Int × Int × Bool
 | 0=>(0,0,false)
 |k+1=>if (ns.getD k nz).o=id then scStep (ns.getD k nz) (scU id ns k) else scU id ns k
section
variable {os:List Or} {ns:List order.Nt} {o p:Or} {n:order.Nt} {j k:Nat} {id:Int}
theorem sc_yes (h:(ns.getD k nz).o=id):scU id ns (k+1)=scStep (ns.getD k nz) (scU id ns k):=if_pos h
theorem sc_no (h:¬ (ns.getD k nz).o=id):scU id ns (k+1)=scU id ns k:=if_neg h
theorem app_at (h:k < ns.length):(ns++[n]).getD k nz=ns.getD k nz:=by simp only [List.getD_eq_getElem?_getD];rw [List.getElem?_append_left h]
theorem app_last:(ns++[n]).getD ns.length nz=n:=by simp [List.getD_eq_getElem?_getD]
theorem sc_app:∀ k,k≤ns.length→scU id (ns++[n]) k=scU id ns k
 | 0,_=>rfl
 |k+1,h=>by
  unfold scU
  rw [app_at (by omega),sc_app k (by omega)]
def Turn (id:Int) (ns:List order.Nt):Prop := ∀ k,k < ns.length→(ns.getD k nz).o=id→(scU id ns k).2.2=false∧((scU id ns k).2.1=0→(ns.getD k nz).t≤2)
def Tells (r:Int × Int × Bool) (o:Or):Prop:=r.2.1=1∧o.f=r.1∧(o.h=3 ↔ (r.2.2=true∨o.f=o.q))
structure Fil (os:List Or) (ns:List order.Nt):Prop where
 turn:∀ id,Turn id ns
 some:∀ j,j < os.length→Tells (scU (os.getD j oz).i ns ns.length) (os.getD j oz)
 none:∀ id,noneUp os id os.length→scU id ns ns.length=(0,0,false)
theorem fil_nil:Fil [] []:=⟨fun _ k h=>absurd h (by simp),fun j h=>absurd h (by simp),fun _ _=>rfl⟩
theorem turn_app (h:Turn id ns) (h1:n.o=id→(scU id ns ns.length).2.2=false∧((scU id ns ns.length).2.1=0→n.t≤2)):Turn id (ns++[n]):=fun k hk ho=>by
 have hlen:(ns++[n]).length=ns.length+1:=by simp
 rw [hlen] at hk
 rw [sc_app k (by omega)]
 by_cases h2:k < ns.length
 ·rw [app_at h2] at ho ⊢;exact h k h2 ho
 ·obtain rfl:k=ns.length:=by omega
  rw [app_last] at ho ⊢;exact h1 ho
theorem sc_last:scU id (ns++[n]) (ns++[n]).length=if n.o=id then scStep n (scU id ns ns.length) else scU id ns ns.length:=by
 have hlen:(ns++[n]).length=ns.length+1:=by simp
 rw [hlen]
 by_cases h:n.o=id
 ·rw [if_pos h,sc_yes (by rw [app_last];exact h),app_last,sc_app _ (Nat.le_refl _)]
 ·rw [if_neg h,sc_no (by rw [app_last];exact h),sc_app _ (Nat.le_refl _)]
theorem went_tells {r:Int × Int × Bool} (hh:o.h=2) (ht:Tells r o) (hw:Went o n p):r.2.2=false∧r.2.1=1∧Tells (scStep n r) p:=by
 obtain ⟨r1,r2,r3⟩:=r
 obtain ⟨t1,t2,t3⟩:=ht
 simp only at t1 t2 t3
 have hne:¬ (r3=true∨o.f=o.q):=fun e=>by have:=t3.2 e;omega
 have h3:r3=false:=by
  cases r3 with
  |true=>exact absurd (.inl rfl) hne
  |false=>rfl
 have hfq:¬ o.f=o.q:=fun e=>hne (.inr e)
 subst h3
 refine ⟨rfl,t1,?_⟩
 unfold scStep Tells
 rcases hw with ⟨e,h1,h2,hp⟩ | ⟨e,hp⟩ | ⟨e,h1,h2,v,hv,hp⟩ | ⟨e,v,hv,hp⟩
 ·rw [if_neg (by omega),if_pos e]
  by_cases hq:o.f+n.q=o.q
  ·rw [if_pos hq] at hp;subst hp
   exact ⟨t1,by show o.f+n.q=r1+n.q;omega,by simp [hq]⟩
  ·rw [if_neg hq] at hp;subst hp
   exact ⟨t1,by show o.f+n.q=r1+n.q;omega,by simp [hq,hh]⟩
 ·rw [if_neg (by omega),if_neg (by omega),if_pos e]
  subst hp
  exact ⟨t1,t2,by simp⟩
 ·rw [if_neg (by omega),if_neg (by omega),if_neg (by omega)]
  subst hp
  exact ⟨t1,t2,by simp [hh];omega⟩
 ·rw [if_neg (by omega),if_neg (by omega),if_neg (by omega)]
  subst hp
  exact ⟨t1,t2,by simp [hh];exact hfq⟩
theorem mono_ne (hm:Mono os) {i j:Nat} (hi:i < os.length) (hj:j < os.length) (h:(os.getD i oz).i=(os.getD j oz).i):i=j:=by
 rcases Nat.lt_trichotomy i j with c | c | c
 ·have:=hm i j c hj;omega
 ·exact c
 ·have:=hm j i c hi;omega
theorem fil_step {os' : List Or} {ns' : List order.Nt} (h:Fil os ns) (hm:Mono os) (hs:Step os ns os' ns'):Fil os' ns':=by
 cases hs with
 |same=>exact h
 |new p n hf hn hp ht =>
  obtain ⟨p1,p2,p3⟩:=placeO_spec os p.i
  have hz:=h.none p.i hf
  have hins:∀ i,i < (insO os (placeO os p.i) p).length→(∃ i',i' < os.length∧(insO os (placeO os p.i) p).getD i oz=os.getD i' oz)∨(insO os (placeO os p.i) p).getD i oz=p:=fun i hi=>by
   rw [insO_len p1] at hi
   rw [insO_getD p1]
   by_cases c1:i < placeO os p.i
   ·rw [if_pos c1];exact .inl ⟨i,by omega,rfl⟩
   ·rw [if_neg c1]
    by_cases c2:i=placeO os p.i
    ·rw [if_pos c2];exact .inr rfl
    ·rw [if_neg c2];exact .inl ⟨i - 1,by omega,rfl⟩
  refine ⟨fun id=>turn_app (h.turn id) (fun e=>?_),fun i hi=>?_,fun id hno=>?_⟩
  ·obtain rfl:p.i=id:=by omega
   rw [hz];exact ⟨rfl,fun _=>by omega⟩
  ·rw [sc_last]
   rcases hins i hi with ⟨i',hi',e⟩ | e
   ·rw [e,if_neg (fun e2=>hf i' hi' (by omega))];exact h.some i' hi'
   ·rw [e,if_pos hn,hz]
    unfold scStep Tells
    rw [if_pos (by omega)]
    refine ⟨rfl,hp.1,?_⟩
    show p.h=3 ↔ (decide (n.t=2)=true∨p.f=p.q)
    rw [decide_eq_true_eq];omega
  ·rw [sc_last]
   have hself:(insO os (placeO os p.i) p).getD (placeO os p.i) oz=p:=insO_at p1
   have hne:¬ p.i=id:=fun e=>hno (placeO os p.i) (by rw [insO_len p1];omega) (by rw [hself];exact e)
   rw [if_neg (by omega)]
   refine h.none id (fun i hi e=>?_)
   by_cases c1:i < placeO os p.i
   ·exact hno i (by rw [insO_len p1];omega) (by rw [insO_getD p1,if_pos c1];exact e)
   ·exact hno (i+1) (by rw [insO_len p1];omega) (by rw [insO_getD p1,if_neg (by omega),if_neg (by omega)];exact e)
 |went j p n hj hn hi hh hw =>
  have hT:=went_tells hh (h.some j hj) hw
  have hids:∀ i,((os.set j p).getD i oz).i=(os.getD i oz).i:=fun i=>by
   rw [getD_set hj];split
   ·rename_i e;rw [e];exact hi
   ·rfl
  refine ⟨fun id=>turn_app (h.turn id) (fun e=>?_),fun i hi2=>?_,fun id hno=>?_⟩
  ·obtain rfl:(os.getD j oz).i=id:=by omega
   exact ⟨hT.1,fun e2=>by rw [hT.2.1] at e2;cases e2⟩
  ·rw [List.length_set] at hi2
   rw [hids,sc_last,getD_set hj]
   by_cases c:i=j
   ·subst c;rw [if_pos hn,if_pos rfl];exact hT.2.2
   ·rw [if_neg (fun e=>c (mono_ne hm hi2 hj (by omega))),if_neg c];exact h.some i hi2
  ·rw [sc_last]
   rw [List.length_set] at hno
   have hno2:noneUp os id os.length:=fun i hi2 e=>hno i hi2 (by rw [hids];exact e)
   rw [if_neg (fun e=>hno2 j hj (by omega))]
   exact h.none id hno2
end
end Go.Proofs.Ytcpahggkioagkaa.venue
