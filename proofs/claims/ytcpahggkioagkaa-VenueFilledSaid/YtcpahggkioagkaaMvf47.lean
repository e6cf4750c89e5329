/-
  VenR3, VenQ
-/
import Derived.Test.YtcpahggkioagkaaMvf46
set_option linter.unusedVariables false
set_option linter.unusedSimpArgs false
section
namespace Go.Proofs.Ytcpahggkioagkaa.venue
open Go.RowKit Go.Proofs.Ytcpahggkioagkaa
open Go.Proofs.Ytcpahggkioagkaa.order (Or oz open_)
open Go.Proofs.Ytcpahggkioagkaa.rec (Rc)
open Go.Proofs.Ytcpahggkioagkaa.book (v_oright v_ofnote v_take v_begin v_open v_change l_rec nt_fine)
set_option maxRecDepth 20000
open Go.Proofs.Ytcpahggkioagkaa.order (Rightly)
section
variable {w0:World} {D:List Fact} {S:Nat→Prop} {v:Vv} {s:Vn}
end
section
variable {s:Vn} {id q:Int} {o:Or} {m:Mg} {acc:Bool} {x:Int} {os:List Or} {ns:List order.Nt}
theorem find_neg (h:findV os id < 0):findV os id = -1:=by
 rcases find_rng (l:=os) (id:=id) with e | ⟨n,_,e,_⟩
 ·exact e
 ·omega
theorem find_pos (h:¬ findV os id < 0):¬ findV os id = -1:=by omega
theorem head_ok (h:right s=true) (h0:¬ (s.l.length:Int)=0):rightMsg (s.l.getD 0 mz)=true:=(right_up h).1 0 (by omega)
theorem kind_of (h:rightMsg m=true):(m.k=1∨m.k=2∨m.k=3)∧(m.k=2→1≤m.q∧1≤m.p∧1≤m.v):=by
 unfold rightMsg mAsk at h
 simp only [Bool.and_eq_true,decide_eq_true_eq] at h
 omega
theorem open_known (h:Rightly o∧o.m=0∧o.r=0∧¬ o.h=1) (hh:o.h=2):open_ o=o.q - o.f∧0≤o.q - o.f:=by
 have h1:=h.1
 unfold Rightly at h1
 refine ⟨?_,by omega⟩
 unfold open_
 rw [if_neg (fun e=>by rcases e with e | e;rw [order.right_iff.2 h.1] at e;cases e;omega),if_neg (by omega)]
theorem fl_7 (hr:right s=true) (hq:¬ q < 1) (hf:findV s.os id < 0):fillV s id q=(s,7):=by rw [fill_0 hr hq,bef_none (find_neg hf)]
theorem fl_8 (hr:right s=true) (hq:¬ q < 1) (hf:¬ findV s.os id < 0) (h:¬ (s.os.getD (findV s.os id).toNat oz).h=2∨(s.os.getD (findV s.os id).toNat oz).q - (s.os.getD (findV s.os id).toNat oz).f < q):fillV s id q=(s,8):=by
 rw [fill_0 hr hq]
 by_cases hh:(s.os.getD (findV s.os id).toNat oz).h=2
 ·have:=open_known (known hr (find_nat (find_pos hf)).2.1) hh
  rw [bef_much (find_pos hf) (by rw [this.1];show _ < q;rcases h with h | h;exact absurd hh h;exact h)]
 ·rw [bef_done (find_pos hf) hh]
theorem fl_6 (hr:right s=true) (hq:¬ q < 1) (hf:¬ findV s.os id < 0) (hh:(s.os.getD (findV s.os id).toNat oz).h=2) (hl:¬ (s.os.getD (findV s.os id).toNat oz).q - (s.os.getD (findV s.os id).toNat oz).f < q) (hn:s.ns.length=400):fillV s id q=(s,6):=by
 have:=open_known (known hr (find_nat (find_pos hf)).2.1) hh
 rw [fill_0 hr hq,bef_full (find_pos hf) hh (by rw [this.1];exact hl) hn]
theorem fl_0 (hr:right s=true) (hq:¬ q < 1) (hf:¬ findV s.os id < 0) (hh:(s.os.getD (findV s.os id).toNat oz).h=2) (hl:¬ (s.os.getD (findV s.os id).toNat oz).q - (s.os.getD (findV s.os id).toNat oz).f < q) (hn:¬ s.ns.length=400) (ht:toldV s.os s.ns (findV s.os id).toNat (fillN q)=(os,ns)):fillV s id q=(⟨s.l,os,ns⟩,0):=by
 have:=open_known (known hr (find_nat (find_pos hf)).2.1) hh
 rw [fill_0 hr hq,bef_yes (find_pos hf) hh (by rw [this.1];exact hl) hn,ht]
theorem ou_7 (hr:right s=true) (hf:findV s.os id < 0):outV s id=(s,7):=by rw [out_0 hr,bef_none (find_neg hf)]
theorem ou_8 (hr:right s=true) (hf:¬ findV s.os id < 0) (h:¬ (s.os.getD (findV s.os id).toNat oz).h=2):outV s id=(s,8):=by rw [out_0 hr,bef_done (find_pos hf) h]
theorem ou_6 (hr:right s=true) (hf:¬ findV s.os id < 0) (hh:(s.os.getD (findV s.os id).toNat oz).h=2) (hn:s.ns.length=400):outV s id=(s,6):=by
 have:=open_known (known hr (find_nat (find_pos hf)).2.1) hh
 rw [out_0 hr,bef_full (find_pos hf) hh (by rw [this.1];show ¬ _ < (0:Int);omega) hn]
theorem ou_0 (hr:right s=true) (hf:¬ findV s.os id < 0) (hh:(s.os.getD (findV s.os id).toNat oz).h=2) (hn:¬ s.ns.length=400) (ht:toldV s.os s.ns (findV s.os id).toNat outN=(os,ns)):outV s id=(⟨s.l,os,ns⟩,0):=by
 have:=open_known (known hr (find_nat (find_pos hf)).2.1) hh
 rw [out_0 hr,bef_yes (find_pos hf) hh (by rw [this.1];show ¬ _ < (0:Int);omega) hn,ht]
end
end Go.Proofs.Ytcpahggkioagkaa.venue
end
section
namespace Go.Proofs.Ytcpahggkioagkaa.venue
set_option maxRecDepth 20000
open Go.RowKit Go.Proofs.Ytcpahggkioagkaa
open Go.Proofs.Ytcpahggkioagkaa.order (Or oz open_ Rightly)
open Go.Proofs.Ytcpahggkioagkaa.rec (Rc)
section
variable {os:List Or} {ns:List order.Nt} {l:List Mg} {o:Or} {n:order.Nt} {m:Mg} {j i:Nat} {s:Vn} {acc:Bool} {id q:Int}
theorem getD_set (h:j < os.length):(os.set j o).getD i oz=if i=j then o else os.getD i oz:=by
 simp only [List.getD_eq_getElem?_getD,List.getElem?_set]
 by_cases e:j=i
 ·subst e;simp [h]
 ·rw [if_neg e,if_neg (fun e2=>e e2.symm)]
theorem orders_iff:ordersOk os=true ↔ os.length≤400∧upOrders os os.length:=by unfold ordersOk;exact decide_eq_true_iff
theorem notes_iff:notesOk ns=true ↔ ns.length≤400∧upNotes ns ns.length:=by unfold notesOk;exact decide_eq_true_iff
theorem inbox_iff:inboxOk l=true ↔ l.length≤400∧upInbox l l.length:=by unfold inboxOk;exact decide_eq_true_iff
theorem right_parts:right s=true ↔ inboxOk s.l=true∧ordersOk s.os=true∧notesOk s.ns=true:=by unfold right;simp [and_assoc]
theorem orders_set (h:ordersOk os=true) (hj:j < os.length) (h1:order.right o=true) (h2:mKnow o=true) (hi:o.i=(os.getD j oz).i):ordersOk (os.set j o)=true:=by
 obtain ⟨a,b⟩:=orders_iff.1 h
 refine orders_iff.2 ⟨by rw [List.length_set];exact a,fun k hk=>?_⟩
 rw [List.length_set] at hk
 have hb:=b k hk
 have e:∀ i,((os.set j o).getD i oz).i=(os.getD i oz).i:=fun i=>by
  rw [getD_set hj];split
  ·rename_i e;rw [e];exact hi
  ·rfl
 rw [e,e]
 refine ⟨?_,?_,hb.2.2⟩<;>(rw [getD_set hj];split)
 ·exact h1
 ·exact hb.1
 ·exact h2
 ·exact hb.2.1
theorem notes_app (h:notesOk ns=true) (hl:ns.length < 400) (hz:n.z=(ns.length:Int)+1) (hn:order.noteOk n=true):notesOk (ns++[n])=true:=by
 obtain ⟨a,b⟩:=notes_iff.1 h
 have hlen:(ns++[n]).length=ns.length+1:=by simp
 refine notes_iff.2 ⟨by omega,fun k hk=>?_⟩
 rw [hlen] at hk
 by_cases h1:k < ns.length
 ·have e:(ns++[n]).getD k nz=ns.getD k nz:=by simp only [List.getD_eq_getElem?_getD];rw [List.getElem?_append_left h1]
  rw [e];exact b k h1
 ·obtain rfl:k=ns.length:=by omega
  have e:(ns++[n]).getD ns.length nz=n:=by simp [List.getD_eq_getElem?_getD]
  rw [e];exact ⟨hz,hn⟩
theorem inbox_app (h:inboxOk l=true) (hl:l.length < 400) (hm:rightMsg m=true):inboxOk (l++[m])=true:=by
 obtain ⟨a,b⟩:=inbox_iff.1 h
 have hlen:(l++[m]).length=l.length+1:=by simp
 refine inbox_iff.2 ⟨by omega,fun k hk=>?_⟩
 rw [hlen] at hk
 by_cases h1:k < l.length
 ·have e:(l++[m]).getD k mz=l.getD k mz:=by simp only [List.getD_eq_getElem?_getD];rw [List.getElem?_append_left h1]
  rw [e];exact b k h1
 ·obtain rfl:k=l.length:=by omega
  have e:(l++[m]).getD l.length mz=m:=by simp [List.getD_eq_getElem?_getD]
  rw [e];exact hm
theorem inbox_tail (h:inboxOk l=true):inboxOk (l.drop 1)=true:=by
 obtain ⟨a,b⟩:=inbox_iff.1 h
 refine inbox_iff.2 ⟨by rw [List.length_drop];omega,fun k hk=>?_⟩
 rw [List.length_drop] at hk
 have e:(l.drop 1).getD k mz=l.getD (1+k) mz:=by simp only [List.getD_eq_getElem?_getD,List.getElem?_drop]
 rw [e];exact b _ (by omega)
theorem insO_getD (hk:i≤os.length):(insO os i o).getD j oz=if j < i then os.getD j oz else if j=i then o else os.getD (j - 1) oz:=by
 have hl:(os.take i).length=i:=by rw [List.length_take];omega
 unfold insO
 simp only [List.getD_eq_getElem?_getD]
 by_cases h1:j < i
 ·rw [if_pos h1,List.getElem?_append_left (by omega),List.getElem?_take,if_pos h1]
 ·rw [if_neg h1,List.getElem?_append_right (by omega),hl]
  by_cases h2:j=i
  ·rw [if_pos h2,h2,Nat.sub_self];rfl
  ·rw [if_neg h2,show j - i=(j - i - 1)+1 by omega,List.getElem?_cons_succ,List.getElem?_drop,show i+(j - i - 1)=j - 1 by omega]
theorem orders_ins (h:ordersOk os=true) (hl:os.length < 400) (hf:noneUp os o.i os.length) (h1:order.right o=true) (h2:mKnow o=true):ordersOk (insO os (placeO os o.i) o)=true:=by
 obtain ⟨a,b⟩:=orders_iff.1 h
 obtain ⟨p1,p2,p3⟩:=placeO_spec os o.i
 have hlen:=insO_len (o:=o) p1
 refine orders_iff.2 ⟨by omega,fun k hk=>?_⟩
 rw [hlen] at hk
 have hm:=mono_of b
 rw [insO_getD p1,insO_getD p1]
 rcases Nat.lt_trichotomy k (placeO os o.i) with c | c | c
 ·have hb:=b k (by omega)
  rw [if_pos c,if_pos (by omega)]
  exact hb
 ·rw [if_neg (by omega),if_pos c]
  refine ⟨h1,h2,fun h0=>?_⟩
  rw [if_pos (by omega)]
  exact p2 (k - 1) (by omega)
 ·have hb:=b (k - 1) (by omega)
  rw [if_neg (by omega),if_neg (by omega)]
  refine ⟨hb.1,hb.2.1,fun h0=>?_⟩
  by_cases d:k - 1=placeO os o.i
  ·rw [if_neg (by omega),if_pos d]
   have q1:=p3 (by omega)
   have q2:=hf (placeO os o.i) (by omega)
   rw [d];omega
  ·rw [if_neg (by omega),if_neg d]
   exact hm _ _ (by omega) (by omega)
end
end Go.Proofs.Ytcpahggkioagkaa.venue
end
