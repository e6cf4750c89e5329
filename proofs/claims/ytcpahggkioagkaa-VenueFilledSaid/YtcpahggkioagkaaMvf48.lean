/-
  VenS, VenT
-/
import Derived.Test.YtcpahggkioagkaaMvf47
import Derived.Test.YtcpahggkioagkaaMvf49
set_option linter.unusedVariables false
set_option linter.unusedSimpArgs false
section
namespace Go.Proofs.Ytcpahggkioagkaa.venue
set_option maxRecDepth 20000
open Go.RowKit Go.Proofs.Ytcpahggkioagkaa
open Go.Proofs.Ytcpahggkioagkaa.order (Or oz open_ Rightly)
open Go.Proofs.Ytcpahggkioagkaa.rec (Rc)
def Went (o:Or) (n:order.Nt) (p:Or):Prop :=
 (n.t=3∧1≤n.q∧n.q≤o.q - o.f∧p=if o.f+n.q=o.q then { o with f:=o.f+n.q,h:=3 } else { o with f:=o.f+n.q })∨(n.t=4∧p = { o with h:=3 })
 ∨ (n.t=5∧o.f < n.q∧1≤n.p∧∃ v,o.v < v∧p = { o with v:=v,q:=n.q,p:=n.p })∨(n.t=6∧∃ v,o.v < v∧p = { o with v:=v })
inductive Step (os:List Or) (ns:List order.Nt):List Or→List order.Nt→Prop
 |same:Step os ns os ns
 |new (p:Or) (n:order.Nt) (hf:noneUp os p.i os.length) (hn:n.o=p.i) (hp:p.f=0∧1≤p.q) (ht:n.t=1∧p.h=2∨n.t=2∧p.h=3):Step os ns (insO os (placeO os p.i) p) (ns++[n])
 |went (j:Nat) (p:Or) (n:order.Nt) (hj:j < os.length) (hn:n.o=(os.getD j oz).i) (hi:p.i=(os.getD j oz).i) (hh:(os.getD j oz).h=2) (hw:Went (os.getD j oz) n p):Step os ns (os.set j p) (ns++[n])
section
variable {os:List Or} {ns:List order.Nt} {l:List Mg} {o p:Or} {n:order.Nt} {m:Mg} {j i:Nat} {s:Vn} {acc:Bool} {id q:Int}
theorem known_g (h:right s=true) (hj:j < s.os.length):(s.os.getD j oz).g=false:=(of_decide_eq_true ((right_up h).2.1 j hj).2.1).2.2
theorem right_went (h:right s=true) (hl:inboxOk l=true) (hj:j < s.os.length) (hns:¬ s.ns.length=400) (hp:Rightly p) (hk:¬ p.h=1∧p.m=0∧p.g=false) (hi:p.i=(s.os.getD j oz).i) {t q x:Int} (ht:rec.mayTell t q x=true):right ⟨l,s.os.set j p,s.ns++[⟨((s.ns.length+1:Nat):Int),t,(s.os.getD j oz).i,q,x⟩]⟩=true:=by
 obtain ⟨_,h2,h3⟩:=right_parts.1 h
 have hn:=(right_len h).2.2
 refine right_parts.2 ⟨hl,orders_set h2 hj (order.right_iff.2 hp) (decide_eq_true hk) hi,notes_app h3 (by omega) (by show ((s.ns.length+1:Nat):Int)=_;omega) (lit_ok hn (order.id_in (known h hj).1) ht)⟩
theorem fill_step (h:right s=true):right (fillV s id q).1=true∧(fillV s id q).1.l=s.l∧Step s.os s.ns (fillV s id q).1.os (fillV s id q).1.ns:=by
 by_cases hq:q < 1
 ·rw [fill_1 (.inr hq)];exact ⟨h,rfl,.same⟩
 by_cases hf:findV s.os id < 0
 ·rw [fl_7 h hq hf];exact ⟨h,rfl,.same⟩
 obtain ⟨hj,hid⟩:=(find_nat (find_pos hf)).2
 have kn:=known h hj
 have kg:=known_g h hj
 by_cases hh:(s.os.getD (findV s.os id).toNat oz).h=2
 ·by_cases hl:(s.os.getD (findV s.os id).toNat oz).q - (s.os.getD (findV s.os id).toNat oz).f < q
  ·rw [fl_8 h hq hf (.inr hl)];exact ⟨h,rfl,.same⟩
  by_cases hn:s.ns.length=400
  ·rw [fl_6 h hq hf hh hl hn];exact ⟨h,rfl,.same⟩
  have ht:=take_fill (q:=q) (ns:=s.ns) (right_len h).2.2 kn.1 hh kn.2.1 kn.2.2.1 (by omega) (by omega)
  have e:toldV s.os s.ns (findV s.os id).toNat (fillN q)=(s.os.set (findV s.os id).toNat (if (s.os.getD (findV s.os id).toNat oz).f+q=(s.os.getD (findV s.os id).toNat oz).q then { s.os.getD (findV s.os id).toNat oz with f:=(s.os.getD (findV s.os id).toNat oz).f+q,h:=3 } else { s.os.getD (findV s.os id).toNat oz with f:=(s.os.getD (findV s.os id).toNat oz).f+q }),s.ns++[⟨((s.ns.length+1:Nat):Int),3,(s.os.getD (findV s.os id).toNat oz).i,q,0⟩]):=by
   unfold toldV nOf fillN;rw [ht]
  rw [fl_0 h hq hf hh hl hn e]
  have hr:=kn.1
  unfold Rightly at hr
  have hpi:(if (s.os.getD (findV s.os id).toNat oz).f+q=(s.os.getD (findV s.os id).toNat oz).q then { s.os.getD (findV s.os id).toNat oz with f:=(s.os.getD (findV s.os id).toNat oz).f+q,h:=3 } else { s.os.getD (findV s.os id).toNat oz with f:=(s.os.getD (findV s.os id).toNat oz).f+q } : Or).i=(s.os.getD (findV s.os id).toNat oz).i:=by split<;>rfl
  refine ⟨right_went h (right_parts.1 h).1 hj hn ?_ ?_ hpi (by simp [rec.mayTell];omega),rfl,.went _ _ _ hj rfl hpi hh (.inl ⟨rfl,by show 1≤q;omega,by show q≤_;omega,rfl⟩)⟩
  ·split<;>(unfold Rightly;dsimp only;omega)
  ·split
   ·exact ⟨by show ¬ (3:Int)=1;decide,kn.2.1,kg⟩
   ·exact ⟨kn.2.2.2,kn.2.1,kg⟩
 ·rw [fl_8 h hq hf (.inl hh)];exact ⟨h,rfl,.same⟩
theorem out_told (h:right s=true) (hj:j < s.os.length) (hh:(s.os.getD j oz).h=2) (hn:¬ s.ns.length=400) (hl:inboxOk l=true):toldV s.os s.ns j ⟨0,4,0,0,0⟩=(s.os.set j { s.os.getD j oz with h:=3 },s.ns++[⟨((s.ns.length+1:Nat):Int),4,(s.os.getD j oz).i,0,0⟩])
  ∧ right ⟨l,s.os.set j { s.os.getD j oz with h:=3 },s.ns++[⟨((s.ns.length+1:Nat):Int),4,(s.os.getD j oz).i,0,0⟩]⟩=true∧Step s.os s.ns (s.os.set j { s.os.getD j oz with h:=3 }) (s.ns++[⟨((s.ns.length+1:Nat):Int),4,(s.os.getD j oz).i,0,0⟩]):=by
 have kn:=known h hj
 have ht:=take_out (ns:=s.ns) (right_len h).2.2 kn.1 hh kn.2.1 kn.2.2.1
 have hr:=kn.1
 unfold Rightly at hr
 refine ⟨by unfold toldV nOf;rw [ht],right_went (p:={ s.os.getD j oz with h:=3 }) (t:=4) (q:=0) (x:=0) h hl hj hn (by unfold Rightly;dsimp only;omega) ⟨by show ¬ (3:Int)=1;decide,kn.2.1,known_g h hj⟩ rfl (by decide),.went j _ _ hj rfl rfl hh (.inr (.inl ⟨rfl,rfl⟩))⟩
theorem out_step (h:right s=true):right (outV s id).1=true∧(outV s id).1.l=s.l∧Step s.os s.ns (outV s id).1.os (outV s id).1.ns:=by
 by_cases hf:findV s.os id < 0
 ·rw [ou_7 h hf];exact ⟨h,rfl,.same⟩
 obtain ⟨hj,hid⟩:=(find_nat (find_pos hf)).2
 by_cases hh:(s.os.getD (findV s.os id).toNat oz).h=2
 ·by_cases hn:s.ns.length=400
  ·rw [ou_6 h hf hh hn];exact ⟨h,rfl,.same⟩
  obtain ⟨e,g1,g2⟩:=out_told h hj hh hn (right_parts.1 h).1
  rw [ou_0 h hf hh hn e]
  exact ⟨g1,rfl,g2⟩
 ·rw [ou_8 h hf hh];exact ⟨h,rfl,.same⟩
theorem send_right (h:right s=true):right (sendV s m).1=true∧(sendV s m).1.os=s.os∧(sendV s m).1.ns=s.ns:=by
 unfold sendV
 split
 ·exact ⟨h,rfl,rfl⟩
 ·rename_i h1
  split
  ·exact ⟨h,rfl,rfl⟩
  ·rename_i h2
   have hp:=right_parts.1 h
   have:=(right_len h).1
   have hm:rightMsg m=true:=by
    cases e:rightMsg m with
    |true=>rfl
    |false=>exact absurd (.inr e) h1
   exact ⟨right_parts.2 ⟨inbox_app hp.1 (by omega) hm,hp.2⟩,rfl,rfl⟩
end
end Go.Proofs.Ytcpahggkioagkaa.venue
end
section
namespace Go.Proofs.Ytcpahggkioagkaa.venue
set_option maxRecDepth 20000
open Go.RowKit Go.Proofs.Ytcpahggkioagkaa
open Go.Proofs.Ytcpahggkioagkaa.order (Or oz open_ Rightly)
open Go.Proofs.Ytcpahggkioagkaa.rec (Rc)
section
variable {os:List Or} {ns:List order.Nt} {l:List Mg} {o p:Or} {n:order.Nt} {m:Mg} {j i:Nat} {s:Vn} {acc:Bool} {id q:Int}
theorem new_step (h:right s=true) (hl:inboxOk l=true) (hm:rightMsg m=true) (hk:m.k=1) (hf:findV s.os m.i = -1) (hn:¬ s.ns.length=400) (ho:¬ s.os.length=400):right ⟨l,(begV s.os s.ns m acc).1,(begV s.os s.ns m acc).2⟩=true∧Step s.os s.ns (begV s.os s.ns m acc).1 (begV s.os s.ns m acc).2:=by
 obtain ⟨_,h2,h3⟩:=right_parts.1 h
 have hnl:=(right_len h).2
 have hr:=new_rightly hm hk
 have hno:=find_none hf
 have key:∀ (x t:Int),(t=1∧x=2∨t=2∧x=3)→begV s.os s.ns m acc=(withOs s.os ⟨m.i,m.a,m.y,m.d,m.q,m.p,0,x,0,0,0,false⟩,s.ns++[wN s.ns ⟨m.i,m.a,m.y,m.d,m.q,m.p,0,x,0,0,0,false⟩ ⟨0,t,0,0,0⟩])→right ⟨l,(begV s.os s.ns m acc).1,(begV s.os s.ns m acc).2⟩=true∧Step s.os s.ns (begV s.os s.ns m acc).1 (begV s.os s.ns m acc).2:=by
  intro x t hx e
  rw [e,with_ins hno]
  have hp:Rightly ⟨m.i,m.a,m.y,m.d,m.q,m.p,0,x,0,0,0,false⟩:=by
   have hr2:=hr
   unfold Rightly at hr2 ⊢
   dsimp only at hr2 ⊢
   omega
  refine ⟨right_parts.2 ⟨hl,orders_ins (o:=⟨m.i,m.a,m.y,m.d,m.q,m.p,0,x,0,0,0,false⟩) h2 (by omega) hno (order.right_iff.2 hp) (decide_eq_true ⟨by show ¬ x=1;omega,rfl,rfl⟩),notes_app h3 (by omega) (by show ((s.ns.length+1:Nat):Int)=_;omega) (lit_ok hnl.2 (order.id_in hp) (by rcases hx with ⟨rfl,_⟩ | ⟨rfl,_⟩<;>decide))⟩,?_⟩
  refine .new ⟨m.i,m.a,m.y,m.d,m.q,m.p,0,x,0,0,0,false⟩ _ hno rfl ⟨rfl,?_⟩ hx
  have hr2:=hr
  unfold Rightly at hr2
  exact hr2.1.2.2.2.2.2.2.2.2.1
 have hni:(newO m).i=m.i:=by rw [newO_is hm hk]
 cases acc with
 |true=>exact key 2 1 (.inl ⟨rfl,rfl⟩) (beg_with (n:=⟨0,1,0,0,0⟩) hf hni rfl (take_ack hnl.2 hm hk) rfl)
 |false=>exact key 3 2 (.inr ⟨rfl,rfl⟩) (beg_with (n:=⟨0,2,0,0,0⟩) hf hni rfl (take_reject hnl.2 hm hk) rfl)
theorem rep_step (h:right s=true) (hl:inboxOk l=true) (hm:rightMsg m=true) (hk:m.k=2) (hj:j < s.os.length) (hh:(s.os.getD j oz).h=2) (hv:(s.os.getD j oz).v < m.v) (hn:¬ s.ns.length=400):right ⟨l,(repV s.os s.ns j m acc).1,(repV s.os s.ns j m acc).2⟩=true∧Step s.os s.ns (repV s.os s.ns j m acc).1 (repV s.os s.ns j m acc).2:=by
 have hnl:=(right_len h).2.2
 have kn:=known h hj
 have kg:=known_g h hj
 obtain ⟨a1,a2,a3⟩:=(kind_of hm).2 hk
 have hmo:=mono_of (right_up h).2.1
 have hr:=kn.1
 unfold Rightly at hr
 by_cases hy:acc=true∧(s.os.getD j oz).f < m.q
 ·have e:=rep_with (n:=⟨0,5,0,m.q,m.p⟩) h hj (rep_yes hy.1 hy.2) (take_newq hnl kn.1 hh kn.2.1 kn.2.2.1 a1 a2 a3 hy.2 rfl) rfl
  rw [e,with_set (o:={ s.os.getD j oz with v:=m.v,q:=m.q,p:=m.p }) hmo hj rfl]
  refine ⟨right_went (p:={ s.os.getD j oz with v:=m.v,q:=m.q,p:=m.p }) (t:=5) (q:=m.q) (x:=m.p) h hl hj hn ?_ ⟨kn.2.2.2,kn.2.1,kg⟩ rfl (by simp [rec.mayTell,rec.mayAsk,a1,a2]),.went j _ _ hj rfl rfl hh (.inr (.inr (.inl ⟨rfl,hy.2,a2,m.v,hv,rfl⟩)))⟩
  have:=hy.2
  unfold Rightly;dsimp only;omega
 ·have hno:acc=false∨¬ (s.os.getD j oz).f < m.q:=by
   cases acc with
   |false=>exact .inl rfl
   |true=>exact .inr (fun e=>hy ⟨rfl,e⟩)
  have e:=rep_with (n:=⟨0,6,0,0,0⟩) h hj (rep_no hno) (take_refused hnl kn.1 hh kn.2.1 kn.2.2.1 a1 a2 a3 rfl) rfl
  rw [e,with_set (o:={ s.os.getD j oz with v:=m.v }) hmo hj rfl]
  refine ⟨right_went (p:={ s.os.getD j oz with v:=m.v }) (t:=6) (q:=0) (x:=0) h hl hj hn ?_ ⟨kn.2.2.2,kn.2.1,kg⟩ rfl (by decide),.went j _ _ hj rfl rfl hh (.inr (.inr (.inr ⟨rfl,m.v,hv,rfl⟩)))⟩
  unfold Rightly;dsimp only;omega
theorem take_step (h:right s=true):right (takeV s acc).1=true∧Step s.os s.ns (takeV s acc).1.os (takeV s acc).1.ns:=by
 by_cases h0:s.l.length=0
 ·rw [take_7 h h0];exact ⟨h,.same⟩
 by_cases h6:s.ns.length=400∨((s.l.getD 0 mz).k=1∧findV s.os (s.l.getD 0 mz).i = -1∧s.os.length=400)
 ·rw [take_6 h h0 h6];exact ⟨h,.same⟩
 rw [take_0 h h0 h6]
 have hn:¬ s.ns.length=400:=fun e=>h6 (.inl e)
 have hm:=head_ok h (by omega)
 have hl:=inbox_tail (right_parts.1 h).1
 have hp:=right_parts.1 h
 have hsame:right ⟨s.l.drop 1,s.os,s.ns⟩=true:=right_parts.2 ⟨hl,hp.2⟩
 show right ⟨_,(metV s.os s.ns (s.l.getD 0 mz) acc).1,(metV s.os s.ns (s.l.getD 0 mz) acc).2⟩=true∧Step s.os s.ns (metV s.os s.ns (s.l.getD 0 mz) acc).1 (metV s.os s.ns (s.l.getD 0 mz) acc).2
 generalize s.l.getD 0 mz=m at *
 by_cases k1:m.k=1
 ·by_cases hf:findV s.os m.i = -1
  ·rw [met_new k1 hf];exact new_step h hl hm k1 hf hn (fun e=>h6 (.inr ⟨k1,hf,e⟩))
  ·rw [met_known k1 hf];exact ⟨hsame,.same⟩
 by_cases hf:findV s.os m.i = -1
 ·rw [met_none k1 hf];exact ⟨hsame,.same⟩
 have hj:=(find_nat hf).2.1
 by_cases hh:(s.os.getD (findV s.os m.i).toNat oz).h=2
 ·by_cases k2:m.k=2∧(s.os.getD (findV s.os m.i).toNat oz).v < m.v
  ·rw [met_rep k1 hf hh k2.1 k2.2];exact rep_step h hl hm k2.1 hj hh k2.2 hn
  ·by_cases k3:m.k=3∧acc=true
   ·rw [met_out k1 hf hh k3.1 k3.2]
    obtain ⟨e,g1,g2⟩:=out_told h hj hh hn hl
    rw [e];exact ⟨g1,g2⟩
   ·rw [met_same k1 hf hh k2 k3];exact ⟨hsame,.same⟩
 ·rw [met_done k1 hf hh];exact ⟨hsame,.same⟩
theorem deed_step {d:Dd} (h:right s=true):right (deedV s d)=true∧Step s.os s.ns (deedV s d).os (deedV s d).ns:=by
 unfold deedV
 split
 ·exact take_step h
 ·split
  ·exact ⟨(fill_step h).1,(fill_step h).2.2⟩
  ·split
   ·exact ⟨(out_step h).1,(out_step h).2.2⟩
   ·obtain ⟨g1,g2,g3⟩:=send_right (m:=deedM d) h
    rw [g2,g3];exact ⟨g1,.same⟩
end
end Go.Proofs.Ytcpahggkioagkaa.venue
end
