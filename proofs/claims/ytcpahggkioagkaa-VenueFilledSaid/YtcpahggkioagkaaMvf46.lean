/-
  VenR1, VenR2, VenP
-/
import Derived.Test.YtcpahggkioagkaaMvf37
import Derived.Test.YtcpahggkioagkaaMvf45
set_option linter.unusedVariables false
set_option linter.unusedSimpArgs false
section
namespace Go.Proofs.Ytcpahggkioagkaa.venue
open Go.RowKit Go.Proofs.Ytcpahggkioagkaa
open Go.Proofs.Ytcpahggkioagkaa.order (Or oz open_)
open Go.Proofs.Ytcpahggkioagkaa.rec (Rc)
open Go.Proofs.Ytcpahggkioagkaa.book (v_oright v_ofnote v_take v_begin v_open v_change l_rec nt_fine)
set_option maxRecDepth 20000
open Go.Proofs.Ytcpahggkioagkaa.book (w_rec w_oright)
deriving instance DecidableEq for Vn
section
variable {m:Mg}
end
section
variable {s:Vn}
end
section
variable {α:Type} {z:α} {l l2:List α} {n:Nat}
end
end Go.Proofs.Ytcpahggkioagkaa.venue
end
section
namespace Go.Proofs.Ytcpahggkioagkaa.venue
open Go.RowKit Go.Proofs.Ytcpahggkioagkaa
open Go.Proofs.Ytcpahggkioagkaa.order (Or oz open_)
open Go.Proofs.Ytcpahggkioagkaa.rec (Rc)
open Go.Proofs.Ytcpahggkioagkaa.book (v_oright v_ofnote v_take v_begin v_open v_change l_rec nt_fine)
set_option maxRecDepth 20000
def wN (ns:List order.Nt) (o:Or) (n:order.Nt):order.Nt:=⟨((ns.length+1:Nat):Int),n.t,o.i,n.q,n.p⟩
def wStep (o x:Or) (r:List Or × Bool):List Or × Bool :=
 if r.2=false∧o.i≤x.i then (if x.i=o.i then (r.1++[o],true) else (r.1++[o]++[x],true)) else (if x.i=o.i then r else (r.1++[x],r.2))
def wUp (os:List Or) (o:Or):Nat→List Or × Bool
 | 0=>([],false)
 |n+1=>wStep o (os.getD n oz) (wUp os o n)
def withOs (os:List Or) (o:Or):List Or:=if (wUp os o os.length).2=true then (wUp os o os.length).1 else (wUp os o os.length).1++[o]
section
variable {os:List Or} {o:Or} {n:Nat}
theorem w_a (h:(wUp os o n).2=true) (he:¬ (os.getD n oz).i=o.i):wUp os o (n+1)=((wUp os o n).1++[os.getD n oz],true):=by
 show wStep o _ _=_
 unfold wStep
 rw [if_neg (fun e=>by rw [h] at e;cases e.1),if_neg he,h]
theorem w_c (h:(wUp os o n).2=false) (hg:o.i≤(os.getD n oz).i) (he:¬ (os.getD n oz).i=o.i):wUp os o (n+1)=((wUp os o n).1++[o]++[os.getD n oz],true):=by
 show wStep o _ _=_
 unfold wStep
 rw [if_pos ⟨h,hg⟩,if_neg he]
theorem w_d (h:(wUp os o n).2=false) (hg:o.i≤(os.getD n oz).i) (he:(os.getD n oz).i=o.i):wUp os o (n+1)=((wUp os o n).1++[o],true):=by
 show wStep o _ _=_
 unfold wStep
 rw [if_pos ⟨h,hg⟩,if_pos he]
theorem w_e (h:(wUp os o n).2=false) (hg:¬ o.i≤(os.getD n oz).i):wUp os o (n+1)=((wUp os o n).1++[os.getD n oz],false):=by
 show wStep o _ _=_
 unfold wStep
 rw [if_neg (fun e=>hg e.2),if_neg (by omega),h]
theorem with_put (hn:n=os.length) (h:(wUp os o n).2=true):withOs os o=(wUp os o n).1:=by subst hn;exact if_pos h
theorem with_not (hn:n=os.length) (h:(wUp os o n).2=false):withOs os o=(wUp os o n).1++[o]:=by subst hn;exact if_neg (by rw [h];decide)
end
end Go.Proofs.Ytcpahggkioagkaa.venue
end
section
namespace Go.Proofs.Ytcpahggkioagkaa.venue
set_option maxRecDepth 20000
open Go.RowKit Go.Proofs.Ytcpahggkioagkaa
open Go.Proofs.Ytcpahggkioagkaa.order (Or oz open_ Rightly)
open Go.Proofs.Ytcpahggkioagkaa.rec (Rc)
section
variable {os:List Or} {o:Or} {j k n:Nat}
theorem take_next (h:n < os.length):os.take (n+1)=os.take n++[os.getD n oz]:=by
 rw [List.take_add_one,List.getElem?_eq_getElem h,getD_get h];rfl
def Mono (os:List Or):Prop := ∀ i j,i < j→j < os.length→(os.getD i oz).i < (os.getD j oz).i
theorem mono_of (h:upOrders os os.length):Mono os:=fun i j hij hj=>by
 induction j with
 |zero=>omega
 |succ j ih =>
  have h1:=(h (j+1) hj).2.2 (by omega)
  rw [show j+1 - 1=j by omega] at h1
  rcases Nat.lt_or_ge i j with h2 | h2
  ·have:=ih h2 (by omega);omega
  ·obtain rfl:i=j:=by omega
   exact h1
theorem set_end (l:List Or) (x:Or) (h:l.length=j):(l++[x]).set j o=l++[o]:=by
 subst h
 induction l with
 |nil=>rfl
 |cons a l ih=>show a :: (l++[x]).set l.length o=_;rw [ih];rfl
theorem set_front:∀ (l:List Or) (j:Nat) (x:Or),j < l.length→(l++[x]).set j o=l.set j o++[x]
 | [],_,_,h=>absurd h (by simp)
 |a :: l,0,x,_=>rfl
 |a :: l,j+1,x,h=>by show a :: (l++[x]).set j o=_;rw [set_front l j x (by simpa using h)];rfl
theorem wUp_set (hm:Mono os) (hj:j < os.length) (he:(os.getD j oz).i=o.i):∀ n,n≤os.length→wUp os o n=if n≤j then (os.take n,false) else ((os.take n).set j o,true)
 | 0,_=>by rw [if_pos (Nat.zero_le _)];rfl
 |n + 1,hn=>by
  have ih:=wUp_set hm hj he n (by omega)
  have hl:(os.take n).length=n:=by rw [List.length_take];omega
  by_cases h1:n+1≤j
  ·rw [if_pos (by omega)] at ih
   rw [if_pos h1,w_e (by rw [ih]) (by have:=hm n j (by omega) hj;omega),ih,take_next (by omega)]
  ·rw [if_neg h1,take_next (by omega)]
   by_cases h2:n=j
   ·rw [if_pos (by omega)] at ih
    rw [w_d (by rw [ih]) (by rw [h2];omega) (by rw [h2];exact he),ih,set_end _ _ (by omega)]
   ·rw [if_neg (by omega)] at ih
    rw [w_a (by rw [ih]) (by have:=hm j n (by omega) (by omega);omega),ih,set_front _ _ _ (by omega)]
theorem with_set (hm:Mono os) (hj:j < os.length) (he:(os.getD j oz).i=o.i):withOs os o=os.set j o:=by
 have h:=wUp_set hm hj he os.length (Nat.le_refl _)
 rw [if_neg (by omega),List.take_of_length_le (Nat.le_refl _)] at h
 rw [with_put rfl (by rw [h]),h]
theorem placeO_spec:∀ (os:List Or) (id:Int),placeO os id≤os.length∧upLess os id (placeO os id)∧(placeO os id < os.length→¬ (os.getD (placeO os id) oz).i < id)
 | [],_=>⟨Nat.le_refl _,upLess_0,fun h=>absurd h (by simp [placeO])⟩
 |a :: os,id=>by
  unfold placeO
  by_cases h:a.i < id
  ·rw [if_pos h]
   obtain ⟨h1,h2,h3⟩:=placeO_spec os id
   refine ⟨by simpa using h1,fun j hj=>?_,fun hl=>h3 (by simpa using hl)⟩
   cases j with
   |zero=>exact h
   |succ j=>exact h2 j (by omega)
  ·rw [if_neg h]
   exact ⟨Nat.zero_le _,upLess_0,fun _=>h⟩
theorem wUp_ins (hk:k≤os.length) (h1:upLess os o.i k) (h2:k < os.length→¬ (os.getD k oz).i < o.i) (hn0:noneUp os o.i os.length):∀ n,n≤os.length→wUp os o n=if n≤k then (os.take n,false) else (os.take k++o :: (os.take n).drop k,true)
 | 0,_=>by rw [if_pos (Nat.zero_le _)];rfl
 |n + 1,hn=>by
  have ih:=wUp_ins hk h1 h2 hn0 n (by omega)
  have hl:(os.take n).length=n:=by rw [List.length_take];omega
  by_cases h3:n+1≤k
  ·rw [if_pos (by omega)] at ih
   rw [if_pos h3,w_e (by rw [ih]) (by have:=h1 n (by omega);omega),ih,take_next (by omega)]
  ·rw [if_neg h3]
   by_cases h4:n=k
   ·rw [if_pos (by omega)] at ih
    rw [w_c (by rw [ih]) (by have:=h2 (by omega);rw [h4];omega) (hn0 n (by omega)),ih,take_next (by omega),List.drop_append_of_le_length (by omega),List.drop_of_length_le (by omega),h4]
    simp
   ·rw [if_neg (by omega)] at ih
    rw [w_a (by rw [ih]) (hn0 n (by omega)),ih,take_next (n:=n) (by omega),List.drop_append_of_le_length (by omega)]
    simp
theorem with_ins (hn0:noneUp os o.i os.length):withOs os o=insO os (placeO os o.i) o:=by
 obtain ⟨h1,h2,h3⟩:=placeO_spec os o.i
 have h:=wUp_ins h1 h2 h3 hn0 os.length (Nat.le_refl _)
 unfold insO
 by_cases hk:os.length≤placeO os o.i
 ·rw [if_pos hk] at h
  rw [with_not rfl (by rw [h]),h,List.take_of_length_le hk,List.take_of_length_le (Nat.le_refl _),List.drop_of_length_le hk]
 ·rw [if_neg hk] at h
  rw [with_put rfl (by rw [h]),h,List.take_of_length_le (l:=os) (Nat.le_refl _)]
end
section
variable {s:Vn} {m:Mg} {id q:Int} {o:Or}
theorem right_up (h:right s=true):upInbox s.l s.l.length∧upOrders s.os s.os.length∧upNotes s.ns s.ns.length:=by
 unfold right inboxOk ordersOk notesOk at h
 simp only [Bool.and_eq_true,decide_eq_true_eq] at h
 exact ⟨h.1.1.2,h.1.2.2,h.2.2⟩
theorem find_none (h:findV s.os id = -1):noneUp s.os id s.os.length:=fun j hj e=>by
 unfold findV at h
 by_cases h1:s.os.findIdx (fun o=>decide (o.i=id)) < s.os.length
 ·rw [if_pos h1] at h;omega
 ·have h2:=List.not_of_lt_findIdx (p:=fun o:Or=>decide (o.i=id)) (xs:=s.os) (i:=j) (by omega)
  rw [← getD_get hj] at h2
  simp at h2
  exact h2 e
theorem known (h:right s=true) {j:Nat} (hj:j < s.os.length):Rightly (s.os.getD j oz)∧(s.os.getD j oz).m=0∧(s.os.getD j oz).r=0∧¬ (s.os.getD j oz).h=1:=by
 obtain ⟨h1,h2,_⟩:=(right_up h).2.1 j hj
 have h3:=order.right_iff.1 h1
 have h4:=of_decide_eq_true h2
 refine ⟨h3,h4.2.1,?_,h4.1⟩
 unfold Rightly at h3;omega
theorem lit_ok {ns:List order.Nt} {t i q p:Int} (hl:ns.length≤400) (hi:1≤i∧i≤1000000000000) (ht:rec.mayTell t q p=true):order.noteOk ⟨((ns.length+1:Nat):Int),t,i,q,p⟩=true:=order.note_is (by omega) hi ht
theorem take_out {ns:List order.Nt} (hl:ns.length≤400) (hr:Rightly o) (hh:o.h=2) (hm:o.m=0) (hp:o.r=0):(order.take o ⟨((ns.length+1:Nat):Int),4,o.i,0,0⟩).1 = { o with h:=3 }:=by
 rw [order.take_can (order.right_iff.2 hr) (lit_ok hl (order.id_in hr) (by decide)) rfl]
 simp [order.can,order.told,order.done,hh,hm,hp]
theorem take_fill {ns:List order.Nt} (hl:ns.length≤400) (hr:Rightly o) (hh:o.h=2) (hm:o.m=0) (hp:o.r=0) (h1:1≤q) (h2:q≤o.q - o.f):(order.take o ⟨((ns.length+1:Nat):Int),3,o.i,q,0⟩).1=if o.f+q=o.q then { o with f:=o.f+q,h:=3 } else { o with f:=o.f+q }:=by
 rw [order.take_can (order.right_iff.2 hr) (lit_ok hl (order.id_in hr) (by simp [rec.mayTell,h1])) rfl]
 simp only [order.can,order.told,order.done,hh,hm,hp]
 rw [if_pos (by simp [h2])]
 simp
theorem take_newq {o1:Or} {ns:List order.Nt} (hl:ns.length≤400) (hr:Rightly o) (hh:o.h=2) (hm:o.m=0) (hp:o.r=0) (h1:1≤m.q) (h2:1≤m.p) (h3:1≤m.v) (h4:o.f < m.q) (e:o1 = { o with v:=m.v,m:=m.q,r:=m.p }):(order.take o1 ⟨((ns.length+1:Nat):Int),5,o.i,m.q,m.p⟩).1 = { o with v:=m.v,q:=m.q,p:=m.p }:=by
 subst e
 have hr1:Rightly { o with v:=m.v,m:=m.q,r:=m.p }:=by unfold Rightly at hr ⊢;simp only;omega
 rw [order.take_can (order.right_iff.2 hr1) (lit_ok hl (order.id_in hr) (by simp [rec.mayTell,rec.mayAsk,h1,h2])) rfl]
 simp only [order.can,order.told,hh]
 rw [if_pos (by simp;omega)]
 simp [hm,hp]
theorem take_refused {o1:Or} {ns:List order.Nt} (hl:ns.length≤400) (hr:Rightly o) (hh:o.h=2) (hm:o.m=0) (hp:o.r=0) (h1:1≤m.q) (h2:1≤m.p) (h3:1≤m.v) (e:o1 = { o with v:=m.v,m:=m.q,r:=m.p }):(order.take o1 ⟨((ns.length+1:Nat):Int),6,o.i,0,0⟩).1 = { o with v:=m.v }:=by
 subst e
 have hr1:Rightly { o with v:=m.v,m:=m.q,r:=m.p }:=by unfold Rightly at hr ⊢;simp only;omega
 rw [order.take_can (order.right_iff.2 hr1) (lit_ok hl (order.id_in hr) (by decide)) rfl]
 simp only [order.can,order.told,hh]
 rw [if_pos (by simp;omega)]
 simp [hm,hp]
theorem newO_is (h:rightMsg m=true) (hk:m.k=1):newO m=⟨m.i,m.a,m.y,m.d,m.q,m.p,0,1,0,0,0,false⟩:=by
 unfold rightMsg mName mAsk at h
 simp only [Bool.and_eq_true,decide_eq_true_eq] at h
 obtain ⟨⟨a1,a2,a3,a4,a5,a6,a7,a8,a9⟩,b⟩:=h
 obtain ⟨b1,b2⟩:1≤m.q∧1≤m.p:=by omega
 have hr:rec.right (newR m)=true:=by
  simp [rec.right,rec.may,rec.rd,rec.nums,newR,rec.mayOrder,rec.mayAcc,rec.mayAsk,a1,a2,a3,a4,a5,a6,a7,b1,b2]
 unfold newO order.begin_
 rw [if_pos ⟨rfl,hr⟩]
 rfl
theorem new_rightly (h:rightMsg m=true) (hk:m.k=1):Rightly ⟨m.i,m.a,m.y,m.d,m.q,m.p,0,1,0,0,0,false⟩:=by
 unfold rightMsg mName mAsk at h
 simp only [Bool.and_eq_true,decide_eq_true_eq] at h
 obtain ⟨⟨a1,a2,a3,a4,a5,a6,a7,a8,a9⟩,b⟩:=h
 obtain ⟨b1,b2⟩:1≤m.q∧1≤m.p:=by omega
 obtain ⟨c1,c2⟩:1≤m.d∧m.d≤2:=by omega
 unfold Rightly
 exact ⟨⟨a1,a2,a3,a4,a5,a6,c1,c2,b1,b2⟩,Int.le_refl _,by show (0:Int)≤m.q;omega,Int.le_refl _,.inl ⟨rfl,rfl⟩,.inl ⟨rfl,rfl,rfl,rfl,rfl⟩⟩
theorem take_ack {ns:List order.Nt} (hl:ns.length≤400) (h:rightMsg m=true) (hk:m.k=1):(order.take (newO m) ⟨((ns.length+1:Nat):Int),1,m.i,0,0⟩).1=⟨m.i,m.a,m.y,m.d,m.q,m.p,0,2,0,0,0,false⟩:=by
 rw [newO_is h hk]
 have hr:=new_rightly h hk
 rw [order.take_can (order.right_iff.2 hr) (lit_ok hl (order.id_in hr) (by decide)) rfl]
 simp [order.can,order.told]
theorem take_reject {ns:List order.Nt} (hl:ns.length≤400) (h:rightMsg m=true) (hk:m.k=1):(order.take (newO m) ⟨((ns.length+1:Nat):Int),2,m.i,0,0⟩).1=⟨m.i,m.a,m.y,m.d,m.q,m.p,0,3,0,0,0,false⟩:=by
 rw [newO_is h hk]
 have hr:=new_rightly h hk
 rw [order.take_can (order.right_iff.2 hr) (lit_ok hl (order.id_in hr) (by decide)) rfl]
 simp [order.can,order.told,order.done]
theorem rep_with {acc:Bool} {n:order.Nt} {j:Nat} (hr:right s=true) (hj:j < s.os.length) (hn:repN acc s.os j m=n) (hO:(order.take { s.os.getD j oz with v:=m.v,m:=m.q,r:=m.p } ⟨((s.ns.length+1:Nat):Int),n.t,(s.os.getD j oz).i,n.q,n.p⟩).1=o) (hi:o.i=(s.os.getD j oz).i):repV s.os s.ns j m acc=(withOs s.os o,s.ns++[wN s.ns o n]):=by
 rw [with_set (mono_of (right_up hr).2.1) hj hi.symm]
 unfold repV toldV nOf wN
 rw [hn,repOs_at hj,hO,hi]
 unfold repOs setR setM setV
 simp only [List.set_set]
theorem beg_with {acc:Bool} {n:order.Nt} (hf:findV s.os m.i = -1) (hni:(newO m).i=m.i) (hn:(if acc=true then (⟨0,1,0,0,0⟩:order.Nt) else ⟨0,2,0,0,0⟩)=n) (hO:(order.take (newO m) ⟨((s.ns.length+1:Nat):Int),n.t,m.i,n.q,n.p⟩).1=o) (hi:o.i=m.i):begV s.os s.ns m acc=(withOs s.os o,s.ns++[wN s.ns o n]):=by
 have hp:=(placeO_spec s.os m.i).1
 rw [with_ins (by rw [hi];exact find_none hf)]
 unfold begV toldV nOf wN
 rw [hn,hni,insO_at hp,hni,hO,hi]
 have e:(insO s.os (placeO s.os m.i) (newO m)).set (placeO s.os m.i) o=insO s.os (placeO s.os m.i) o:=by
  unfold insO
  have hl:(s.os.take (placeO s.os m.i)).length=placeO s.os m.i:=by rw [List.length_take];omega
  rw [List.set_append_right _ _ (by omega),hl,Nat.sub_self];rfl
 rw [e]
end
end Go.Proofs.Ytcpahggkioagkaa.venue
end
