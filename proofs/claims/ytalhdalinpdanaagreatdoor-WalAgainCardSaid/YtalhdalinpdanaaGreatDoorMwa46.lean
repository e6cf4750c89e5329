/-
  WalQ
-/
import Derived.Test.YtalhdalinpdanaaGreatDoorMwa41
import Derived.Test.YtalhdalinpdanaaGreatDoorMwa45
set_option linter.unusedVariables false
set_option linter.unusedSimpArgs false
namespace Go.Proofs.YtalhdalinpdanaaGreatDoor.wal
set_option maxRecDepth 20000
open Go.RowKit Go.Proofs.YtalhdalinpdanaaGreatDoor Go.Proofs.YtalhdalinpdanaaGreatDoor.frame Go.Proofs.YtalhdalinpdanaaGreatDoor.disk
abbrev lastF (q:List FrameD):FrameD:=q.getD (q.length - 1) frz
theorem last_app {l m:List FrameD} (h:m.length≠0):lastF (l++m)=lastF m:=by
 unfold lastF
 rw [List.length_append,List.getD_eq_getElem?_getD,List.getD_eq_getElem?_getD,List.getElem?_append_right (by omega)]
 congr 2
 omega
theorem scan_lsn:∀ (k:Nat) (b:List Nat) (n e:Int) (j:Nat),j < (scan.scan k b n e).length→((scan.scan k b n e).getD j frz).l=n+(j:Int)
 | 0,b,n,e,j,h=>by simp [scan.scan] at h
 |k + 1,b,n,e,j,h=>by
  rw [scan.scan] at h ⊢
  split at h
  ·rename_i hc
   rw [if_pos hc]
   cases j with
   |zero=>simp;exact hc.2.2.1
   |succ j =>
    have:=scan_lsn k (b.drop 72) (n+1) (dec (b.take 72)).2.e j (by simpa using h)
    rw [List.getD_cons_succ,this]
    push_cast;omega
  ·simp at h
theorem scanV_lsn {t:DiskD} {a ep:Int} (h:(scanV t a ep).length≠0):(lastF (scanV t a ep)).l=a+((scanV t a ep).length:Int) - 1:=by
 have:=scan_lsn _ ((heldV t a).take 576) a ep ((scanV t a ep).length - 1) (by show (scanV t a ep).length - 1 < (scanV t a ep).length;omega)
 have e:(lastF (scanV t a ep)).l=a+(((scanV t a ep).length - 1:Nat):Int):=this
 rw [e];omega
theorem scanV_bytes (t:DiskD) (a ep:Int):72 * (scanV t a ep).length≤(heldV t a).length:=by
 have h:=scan.all_len ((heldV t a).take 576) a ep
 have h2:((heldV t a).take 576).length≤(heldV t a).length:=by rw [List.length_take];exact Nat.min_le_right _ _
 exact Nat.le_trans h h2
structure RQ (t:DiskD) (q:List FrameD × Nat × Nat × Bool) (r:RdS) (K:Nat):Prop where
 all:r.all=q.1
 m:q.2.1≤(segs t).length
 m1:0 < (segs t).length→1≤q.2.1
 k:K=if q.2.2.1=0 then q.2.1 - 1 else q.2.1
 z:K=0→r=rdz∧q.1=[]
 g:0 < K→r.g=(segs t).getD (K - 1) 0
 p:0 < K→q.1.length≠0∧r.u=(lastF q.1).l∧r.e=(lastF q.1).e+1∧r.n=r.u+1∧r.g+r.c=r.u+1
 c:q.2.2.1≠0→r.c=(q.2.2.1:Int)∧q.2.2.2=decide (72 * q.2.2.1 < (heldV t r.g).length)
 c0:q.2.2.1=0→0 < K→r.c * 72=((heldV t r.g).length:Int)
 s:∀ f ∈ q.1,f.l≤(lastF q.1).l
structure RH (t:DiskD) (i:Nat) (ep:Int) (all:List FrameD) (r:RdS):Prop where
 ha:r.all=all
 hep:r.ep=ep
 hi:i≤(segs t).length
 hz:i=0→r=rdz∧all=[]
 hg:0 < i→r.g=(segs t).getD (i - 1) 0
 hp:0 < i→all.length≠0∧r.u=(lastF all).l∧r.e=(lastF all).e+1∧r.n=r.u+1∧r.g+r.c=r.u+1∧r.c * 72=((heldV t r.g).length:Int)
 hn:0 < i→i < (segs t).length→(segs t).getD i 0=r.n
 hs:∀ f ∈ all,f.l≤(lastF all).l
theorem rq_of (t:DiskD):∀ (d i:Nat) (ep:Int) (all:List FrameD) (r:RdS),(segs t).length - i=d→i < (segs t).length→RH t i ep all r →
  ∃ K,RQ t (readR t ((segs t).drop i) i ep all) (readG t ((segs t).drop i) r) K:=by
 intro d
 induction d with
 |zero=>intro i ep all r hd hi _;omega
 |succ d ih =>
  intro i ep all r hd hi h
  have e1:(segs t)[i]=(segs t).getD i 0:=by rw [List.getD_eq_getElem?_getD,List.getElem?_eq_getElem hi];rfl
  have hrng:=seg_rng (segs_rng t) hi
  rw [rr_unfold hi,List.drop_eq_getElem_cons hi,readG,e1,h.hep]
  have hgo:¬ (r.g≠0∧(segs t).getD i 0≠r.n):=by
   rcases Nat.eq_zero_or_pos i with hz | hp
   ·rw [(h.hz hz).1];simp [rdz]
   ·rw [h.hn hp hi];simp
  rw [if_neg hgo]
  by_cases hF:(scanV t ((segs t).getD i 0) ep).length=0
  ·rw [if_pos (.inr (.inl hF)),if_pos hF]
   refine ⟨i,⟨?_,hi,fun _=>by simp,by show i=if (scanV t ((segs t).getD i 0) ep).length=0 then i+1 - 1 else i+1;rw [if_pos hF];rfl,?_,?_,?_,fun hc=>absurd hF hc,?_,?_⟩⟩
   ·simp only [List.eq_nil_of_length_eq_zero hF,List.append_nil];exact h.ha
   ·intro hz;simp only [List.eq_nil_of_length_eq_zero hF,List.append_nil];exact h.hz hz
   ·exact h.hg
   ·intro hp;simp only [List.eq_nil_of_length_eq_zero hF,List.append_nil]
    obtain ⟨a,b,c,d,e,_⟩:=h.hp hp
    exact ⟨a,b,c,d,e⟩
   ·intro _ hp;exact (h.hp hp).2.2.2.2.2
   ·simp only [List.eq_nil_of_length_eq_zero hF,List.append_nil];exact h.hs
  ·rw [if_neg hF]
   have hl:=scanV_lsn hF
   have hla:lastF (all++scanV t ((segs t).getD i 0) ep)=lastF (scanV t ((segs t).getD i 0) ep):=last_app hF
   have hb:=scanV_bytes t ((segs t).getD i 0) ep
   have hmax:∀ f ∈ all++scanV t ((segs t).getD i 0) ep,f.l≤(lastF (all++scanV t ((segs t).getD i 0) ep)).l:=by
    intro f hf
    rw [hla,hl]
    rcases List.mem_append.1 hf with hf | hf
    ·rcases Nat.eq_zero_or_pos i with hz | hp
     ·rw [(h.hz hz).2] at hf;cases hf
     ·have h1:=h.hs f hf;have h2:=h.hn hp hi;obtain ⟨_,h3,_,h4,_⟩:=h.hp hp
      omega
    ·obtain ⟨j,hj,rfl⟩:=List.getElem_of_mem hf
     have:=scan_lsn _ ((heldV t ((segs t).getD i 0)).take 576) ((segs t).getD i 0) ep j hj
     have e:(scanV t ((segs t).getD i 0) ep).getD j frz=(scanV t ((segs t).getD i 0) ep)[j]:=by rw [List.getD_eq_getElem?_getD,List.getElem?_eq_getElem hj];rfl
     have e2:((scanV t ((segs t).getD i 0) ep).getD j frz).l=(segs t).getD i 0+(j:Int):=this
     rw [e] at e2
     omega
   have hst:stepR t r ((segs t).getD i 0)=⟨(lastF (scanV t ((segs t).getD i 0) ep)).e+1,(lastF (scanV t ((segs t).getD i 0) ep)).l+1,(lastF (scanV t ((segs t).getD i 0) ep)).l,(segs t).getD i 0,((scanV t ((segs t).getD i 0) ep).length:Int),(lastF (scanV t ((segs t).getD i 0) ep)).e,all++scanV t ((segs t).getD i 0) ep⟩:=by
    unfold stepR;rw [h.hep,h.ha]
   have hstop:∀ b:Bool,b=decide (72 * (scanV t ((segs t).getD i 0) ep).length < (heldV t ((segs t).getD i 0)).length)→RQ t (all++scanV t ((segs t).getD i 0) ep,i+1,(scanV t ((segs t).getD i 0) ep).length,b) (stepR t r ((segs t).getD i 0)) (i+1):=by
    intro b hb
    rw [hst]
    refine ⟨rfl,hi,fun _=>by simp,by show i+1=if (scanV t ((segs t).getD i 0) ep).length=0 then i+1 - 1 else i+1;rw [if_neg hF],fun h=>by omega,fun _=>by simp,fun _=>⟨?_,?_,?_,rfl,?_⟩,fun _=>⟨rfl,hb⟩,fun h=>absurd h hF,hmax⟩
    ·simp only [List.length_append];omega
    ·show _=(lastF (all++_)).l;rw [hla]
    ·show _=(lastF (all++_)).e+1;rw [hla]
    ·show (segs t).getD i 0+((scanV t ((segs t).getD i 0) ep).length:Int)=(lastF (scanV t ((segs t).getD i 0) ep)).l+1
     rw [hl];omega
   by_cases hm:72 * (scanV t ((segs t).getD i 0) ep).length < (heldV t ((segs t).getD i 0)).length
   ·rw [if_pos hm,if_pos (.inr (.inr (.inl hm)))]
    exact ⟨i+1,hstop _ rfl⟩
   ·rw [if_neg hm]
    by_cases hend:i+1=(segs t).length
    ·rw [if_pos (.inl hend),List.drop_of_length_le (by omega)]
     exact ⟨i+1,hstop _ rfl⟩
    ·have hi1:i+1 < (segs t).length:=by omega
     have e2:(segs t)[i+1]=(segs t).getD (i+1) 0:=by rw [List.getD_eq_getElem?_getD,List.getElem?_eq_getElem hi1];rfl
     by_cases hg:(segs t).getD (i+1) 0≠(segs t).getD i 0+((scanV t ((segs t).getD i 0) ep).length:Int)
     ·rw [if_pos (.inr (.inr (.inr hg))),List.drop_eq_getElem_cons hi1,readG,e2,if_pos]
      ·exact ⟨i+1,hstop _ rfl⟩
      ·rw [hst]
       refine ⟨by simp only;omega,?_⟩
       simp only [hl];omega
     ·rw [if_neg (fun h=>h.elim hend (fun h=>h.elim hF (fun h=>h.elim hm hg)))]
      have hg' : (segs t).getD (i+1) 0=(segs t).getD i 0+((scanV t ((segs t).getD i 0) ep).length:Int):=by omega
      refine ih (i+1) _ _ _ (by omega) hi1 ⟨by rw [hst],?_,by omega,fun h=>by omega,fun _=>by rw [hst];simp,fun _=>?_,fun _ _=>?_,hmax⟩
      ·rw [hst];unfold epF;rw [if_neg hF]
      ·rw [hst]
       refine ⟨?_,?_,?_,rfl,?_,?_⟩
       ·rw [List.length_append];omega
       ·show _=(lastF (all++_)).l;rw [hla]
       ·show _=(lastF (all++_)).e+1;rw [hla]
       ·show (segs t).getD i 0+((scanV t ((segs t).getD i 0) ep).length:Int)=(lastF (scanV t ((segs t).getD i 0) ep)).l+1
        rw [hl];omega
       ·show ((scanV t ((segs t).getD i 0) ep).length:Int) * 72=((heldV t ((segs t).getD i 0)).length:Int)
        omega
      ·rw [hst];simp only [hl];omega
theorem rq (t:DiskD):∃ K,RQ t (readQ t) (readL t) K:=by
 rcases Nat.eq_zero_or_pos (segs t).length with h | h
 ·have e:=List.eq_nil_of_length_eq_zero h
  refine ⟨0,?_⟩
  unfold readQ readL
  rw [e]
  exact ⟨rfl,Nat.zero_le _,fun h2=>by omega,rfl,fun _=>⟨rfl,rfl⟩,fun h=>by omega,fun h=>by omega,fun h=>absurd rfl h,fun _ h=>by omega,fun f hf=>by cases hf⟩
 ·obtain ⟨K,hK⟩:=rq_of t _ 0 1 [] rdz rfl h ⟨rfl,rfl,Nat.zero_le _,fun _=>⟨rfl,rfl⟩,fun h=>by omega,fun h=>by omega,fun h=>by omega,fun f hf=>by cases hf⟩
  exact ⟨K,hK⟩
theorem rise_ext:∀ {l m:List Int},l.Pairwise (· < ·)→m.Pairwise (· < ·)→(∀ x,x ∈ l ↔ x ∈ m)→l=m
 | [],[],_,_,_=>rfl
 | [],b :: m,_,_,h=>absurd ((h b).2 (by simp)) (by simp)
 |a :: l,[],_,_,h=>absurd ((h a).1 (by simp)) (by simp)
 |a :: l,b :: m,h1,h2,h=>by
  obtain ⟨a1,a2⟩:=List.pairwise_cons.1 h1
  obtain ⟨b1,b2⟩:=List.pairwise_cons.1 h2
  have hab:a=b:=by
   rcases List.mem_cons.1 ((h a).1 (by simp)) with e | ha
   ·exact e
   ·rcases List.mem_cons.1 ((h b).2 (by simp)) with e | hb
    ·exact e.symm
    ·have:=b1 a ha;have:=a1 b hb;omega
  subst hab
  rw [rise_ext a2 b2 fun x=>?_]
  constructor
  ·intro hx
   rcases List.mem_cons.1 ((h x).1 (List.mem_cons_of_mem _ hx)) with e | hx'
   ·have:=a1 x hx;omega
   ·exact hx'
  ·intro hx
   rcases List.mem_cons.1 ((h x).2 (List.mem_cons_of_mem _ hx)) with e | hx'
   ·have:=b1 x hx;omega
   ·exact hx'
theorem rem_ok {d:DiskD} {nm:ByteArray} (h:(removeD d nm).2=0):(removeD d nm).1.files=sans nm d.files:=by
 unfold removeD at h ⊢
 rcases op_cases d nm nm (noE d.files nm) (sans nm d.files) false with ⟨h1,e⟩ | ⟨_,h1,e⟩ | ⟨_,_,_,e⟩ | ⟨_,_,_,e⟩<;>rw [e] at h ⊢
 ·exact absurd h h1
 ·exact absurd h h1
 ·exact absurd h (by show ¬ ((9:Int)=0);decide)
theorem mem_sans {nm:ByteArray} {fs:List FileD} {f:FileD} : f ∈ sans nm fs ↔ f ∈ fs∧f.name≠nm:=by
 unfold sans
 rw [List.mem_filter]
 constructor
 ·rintro ⟨h1,h2⟩;exact ⟨h1,fun e=>by rw [same_iff.2 e] at h2;cases h2⟩
 ·rintro ⟨h1,h2⟩
  refine ⟨h1,?_⟩
  cases hs:sameName f.name nm with
  |false=>rfl
  |true=>exact absurd (same_iff.1 hs) h2
theorem segs_remove {d:DiskD} {n:Int} (hr:rightB d=true) (hn:1≤n∧n≤1000000000) (h:(removeD d (nameV n)).2=0) (x:Int):x ∈ segs (removeD d (nameV n)).1 ↔ x ∈ segs d∧x≠n:=by
 have e:nameV n=nameOf n:=by unfold nameV;rw [if_pos hn]
 rw [segs_iff (right_remove hr),segs_iff hr,rem_ok h,e]
 constructor
 ·rintro ⟨h0,f,hf,rfl⟩
  obtain ⟨h1,h2⟩:=mem_sans.1 hf
  refine ⟨⟨h0,f,h1,rfl⟩,fun e2=>h2 ?_⟩
  have:=(numOf_is h0).1
  rw [this,e2]
 ·rintro ⟨⟨h0,f,hf,rfl⟩,h2⟩
  refine ⟨h0,f,mem_sans.2 ⟨hf,fun e2=>h2 ?_⟩,rfl⟩
  rw [e2,numOf_name (by omega) hn.2]
theorem held_remove {d:DiskD} {n g:Int} (hr:rightB d=true) (hn:1≤n∧n≤1000000000) (hg:g=0∨(1≤g∧g≤1000000000)) (hne:g≠n) (h:(removeD d (nameV n)).2=0):heldV (removeD d (nameV n)).1 g=heldV d g:=by
 unfold heldV
 rw [rem_ok h,look_sans _ _ (right_files hr).2.2.1,if_neg]
 intro e
 have en:nameV n=nameOf n:=by unfold nameV;rw [if_pos hn]
 rcases hg with rfl | hg
 ·rw [en] at e
  have:=named_name n
  rw [← e] at this
  exact absurd this (by decide)
 ·have eg:nameV g=nameOf g:=by unfold nameV;rw [if_pos hg]
  rw [en,eg] at e
  exact hne (name_inj (by omega) (by omega) e)
theorem cut_ok {d:DiskD} {nm:ByteArray} {n:Int} (h:(cutD d nm n).2=0):(cutD d nm n).1.files=cutF d.files nm n∧cutE d.files nm n=0:=by
 unfold cutD at h ⊢
 rcases op_cases d nm nm (cutE d.files nm n) (cutF d.files nm n) false with ⟨h1,e⟩ | ⟨_,h1,e⟩ | ⟨_,_,_,e⟩ | ⟨_,h2,_,e⟩<;>rw [e] at h ⊢
 ·exact absurd h h1
 ·exact absurd h h1
 ·exact absurd h (by show ¬ ((9:Int)=0);decide)
 ·exact ⟨rfl,h2⟩
theorem segs_cut {d:DiskD} {nm:ByteArray} {n:Int} (hr:rightB d=true) (h:(cutD d nm n).2=0):segs (cutD d nm n).1=segs d:=by
 obtain ⟨e,e0⟩:=cut_ok h
 obtain ⟨f,h1,h2,h3,h4,_⟩:=cut_zero e0
 refine rise_ext (segs_rise _) (segs_rise _) fun x=>?_
 rw [segs_iff (right_cut hr),segs_iff hr,e]
 unfold cutF
 have hnm:=old_name nm d.files
 have hrow:=(right_files hr).2.2.1
 constructor
 ·rintro ⟨h0,g,hg,rfl⟩
  rcases (mem_with hrow).1 hg with rfl | ⟨hg,_⟩
  ·refine ⟨h0,f,h3,?_⟩
   show numOf f.name=numOf (oldOf nm d.files).name
   rw [hnm,h4]
  ·exact ⟨h0,g,hg,rfl⟩
 ·rintro ⟨h0,g,hg,rfl⟩
  by_cases hgn:g.name=nm
  ·refine ⟨h0,_,(mem_with hrow).2 (.inl rfl),?_⟩
   show numOf (oldOf nm d.files).name=numOf g.name
   rw [hnm,hgn]
  ·refine ⟨h0,g,(mem_with hrow).2 (.inr ⟨hg,?_⟩),rfl⟩
   show g.name≠(oldOf nm d.files).name
   rw [hnm];exact hgn
theorem rem_drop {t d:DiskD} {k:Nat} (hr:rightB t=true) (hk:k≤(segs t).length) (h:remA t ((segs t).drop k).reverse=(d,0)):rightB d=true∧segs d=(segs t).take k∧∀ g,g=0∨g ∈ (segs t).take k→heldV d g=heldV t g:=by
 obtain ⟨j,hj⟩:∃ j,(segs t).length - k=j:=⟨_,rfl⟩
 induction j generalizing k d with
 |zero =>
  have e:k=(segs t).length:=by omega
  subst e
  rw [List.drop_length] at h
  obtain rfl:t=d:=by simpa [remA] using h
  exact ⟨hr,by rw [List.take_length],fun _ _=>rfl⟩
 |succ j ih =>
  have hk1:k < (segs t).length:=by omega
  have es:((segs t).drop k).reverse=((segs t).drop (k+1)).reverse++[(segs t)[k]]:=by rw [List.drop_eq_getElem_cons hk1,List.reverse_cons]
  have e1:(segs t)[k]=(segs t).getD k 0:=by rw [List.getD_eq_getElem?_getD,List.getElem?_eq_getElem hk1];rfl
  rw [es] at h
  rcases hx:remA t ((segs t).drop (k+1)).reverse with ⟨d1,e⟩
  by_cases he:e=0
  ·subst he
   obtain ⟨a,b,c⟩:=ih (by omega) hx (by omega)
   rw [rem_snoc hx] at h
   have hrng:1≤(segs t)[k]∧(segs t)[k]≤1000000000:=by rw [e1];exact seg_rng (segs_rng t) hk1
   have h0:(removeD d1 (nameV (segs t)[k])).2=0:=by rw [h]
   have hd:(removeD d1 (nameV (segs t)[k])).1=d:=by rw [h]
   have hnod:(segs t).Pairwise (· < ·):=segs_rise t
   have htk:(segs t).take (k+1)=(segs t).take k++[(segs t)[k]]:=by rw [List.take_add_one,List.getElem?_eq_getElem hk1];rfl
   have hlt:∀ x ∈ (segs t).take k,x < (segs t)[k]:=by
    have:=hnod.sublist (List.take_sublist (k+1) _)
    rw [htk,List.pairwise_append] at this
    exact fun x hx=>this.2.2 x hx _ (by simp)
   refine ⟨hd▸right_remove a,?_,?_⟩
   ·refine rise_ext (segs_rise _) (hnod.sublist (List.take_sublist k _)) fun x=>?_
    rw [← hd,segs_remove a hrng h0,b,htk]
    constructor
    ·rintro ⟨hx,hne⟩
     rcases List.mem_append.1 hx with hx | hx
     ·exact hx
     ·exact absurd (List.mem_singleton.1 hx) hne
    ·intro hx
     exact ⟨List.mem_append_left _ hx,fun e=>by have:=hlt x hx;omega⟩
   ·intro g hg
    have hgr:g=0∨(1≤g∧g≤1000000000):=hg.imp id fun h=>segs_rng t g (List.mem_of_mem_take h)
    have hne:g≠(segs t)[k]:=by
     rcases hg with rfl | hg
     ·omega
     ·have:=hlt g hg;omega
    rw [← hd,held_remove a hrng hgr hne h0]
    exact c g (hg.imp id fun h=>by rw [htk];exact List.mem_append_left _ h)
  ·have:=rem_stop he hx (m:=((segs t).drop (k+1)).reverse++[(segs t)[k]]) (List.prefix_append _ _)
   rw [this] at h
   exact absurd (congrArg Prod.snd h) he
def mendR (l:List Int) (q:List FrameD × Nat × Nat × Bool) (no:Bool):Nat→DiskD→DiskD × Int
 | 0,d=>(d,0)
 |k + 1,d =>
  let c:=if k+1=q.2.1∧0 < q.2.2.1∧q.2.2.2=true then cutD d (nameV (l.getD k 0)) ((q.2.2.1:Int) * 72) else (d,0)
  if c.2=0 then
   if q.2.1≤k∨(k+1=q.2.1∧q.2.2.1=0)∨no=true then
    if (removeD c.1 (nameV (l.getD k 0))).2=0 then mendR l q no k (removeD c.1 (nameV (l.getD k 0))).1 else removeD c.1 (nameV (l.getD k 0))
   else mendR l q no k c.1
  else c
def noB (q:List FrameD) (b:Int):Bool:=decide (q.length=0) || decide ((lastF q).l < b)
def epB (q:List FrameD) (b:Int):Int:=if noB q b=true then 0 else (lastF q).e
def leftQ (q:List FrameD × Nat × Nat × Bool):Nat:=if q.2.2.1=0 then q.2.1 - 1 else q.2.1
def openR (t:DiskD) (b:Int):Wl × DiskD × List FrameD × Int :=
 if rightB t=false∨b < 0∨1000000000≤b then (wz,t,[],1)
 else if t.down=true then (wz,t,[],9)
 else if 0 < (segs t).length∧b+1 < (segs t).getD 0 0 then (wz,t,[],11)
 else if 1000000≤epB (readQ t).1 b then (wz,t,[],3)
 else if (mendR (segs t) (readQ t) (noB (readQ t).1 b) (segs t).length t).2=0 then
  (if noB (readQ t).1 b=true then ⟨1,b+1,b,0,0,[]⟩ else ⟨(lastF (readQ t).1).e+1,(lastF (readQ t).1).l+1,(lastF (readQ t).1).l,(segs t).getD (leftQ (readQ t) - 1) 0,(lastF (readQ t).1).l+1 - (segs t).getD (leftQ (readQ t) - 1) 0,[]⟩,
   (mendR (segs t) (readQ t) (noB (readQ t).1 b) (segs t).length t).1,if noB (readQ t).1 b=true then [] else (readQ t).1.filter (fun f=>decide (b < f.l)),0)
 else (wz,(mendR (segs t) (readQ t) (noB (readQ t).1 b) (segs t).length t).1,[],(mendR (segs t) (readQ t) (noB (readQ t).1 b) (segs t).length t).2)
section
variable {t:DiskD} {q:List FrameD × Nat × Nat × Bool} {no:Bool} {l:List Int}
theorem mend_cut {k:Nat} {d:DiskD} (h:k+1=q.2.1∧0 < q.2.2.1∧q.2.2.2=true):mendR l q no (k+1) d=if (cutD d (nameV (l.getD k 0)) ((q.2.2.1:Int) * 72)).2=0 then
   if no=true then
    if (removeD (cutD d (nameV (l.getD k 0)) ((q.2.2.1:Int) * 72)).1 (nameV (l.getD k 0))).2=0 then mendR l q no k (removeD (cutD d (nameV (l.getD k 0)) ((q.2.2.1:Int) * 72)).1 (nameV (l.getD k 0))).1 else removeD (cutD d (nameV (l.getD k 0)) ((q.2.2.1:Int) * 72)).1 (nameV (l.getD k 0))
   else mendR l q no k (cutD d (nameV (l.getD k 0)) ((q.2.2.1:Int) * 72)).1
  else cutD d (nameV (l.getD k 0)) ((q.2.2.1:Int) * 72):=by
 have e:(q.2.1≤k∨(k+1=q.2.1∧q.2.2.1=0)∨no=true) ↔ no=true:=⟨fun h2=>h2.elim (fun h3=>by omega) (fun h3=>h3.elim (fun h4=>by omega) id),fun h3=>.inr (.inr h3)⟩
 rw [mendR]
 simp only [if_pos h,e]
theorem mend_nocut {k:Nat} {d:DiskD} (h:¬ (k+1=q.2.1∧0 < q.2.2.1∧q.2.2.2=true)):mendR l q no (k+1) d=if q.2.1≤k∨(k+1=q.2.1∧q.2.2.1=0)∨no=true then
        if (removeD d (nameV (l.getD k 0))).2=0 then mendR l q no k (removeD d (nameV (l.getD k 0))).1 else removeD d (nameV (l.getD k 0))
      else mendR l q no k d:=by
  rw [mendR]
  simp only [if_neg h,if_true]
theorem mend_low (hk:∀ k,k < q.2.1→True):∀ (k:Nat) (d:DiskD),k < q.2.1∨(k=0)→no=false→(k=q.2.1→False)→mendR l q no k d=(d,0)
 | 0,d,_,_,_=>rfl
 |k+1,d,h,hn,hne=>by
  have h1:k+1 < q.2.1:=by rcases h with h | h<;>omega
  rw [mend_nocut (show ¬ (k+1=q.2.1∧0 < q.2.2.1∧q.2.2.2=true) by rintro ⟨h2,_⟩;omega)]
  rw [if_neg (show ¬ (q.2.1≤k∨(k+1=q.2.1∧q.2.2.1=0)∨no=true) by rw [hn];simp;omega)]
  exact mend_low (fun _ _=>trivial) k d (by omega) hn (by omega)
theorem mend_all:∀ (k:Nat) (d:DiskD),k < q.2.1∨(k=q.2.1∧(q.2.2.1=0∨q.2.2.2=false))→k≤l.length→no=true→mendR l q no k d=remA d (l.take k).reverse
 | 0,d,_,_,_=>rfl
 |k+1,d,h,hl,hn=>by
  have hk:k < l.length:=hl
  have es:(l.take (k+1)).reverse=l.getD k 0 :: (l.take k).reverse:=by
   rw [List.take_add_one,List.getElem?_eq_getElem hk,List.getD_eq_getElem?_getD,List.getElem?_eq_getElem hk];simp
  rw [es,remA]
  rw [mend_nocut (show ¬ (k+1=q.2.1∧0 < q.2.2.1∧q.2.2.2=true) by
   rintro ⟨h2,h3,h4⟩
   rcases h with h | ⟨_,h | h⟩
   ·omega
   ·omega
   ·rw [h] at h4;cases h4)]
  rw [if_pos (.inr (.inr hn))]
  by_cases h0:(removeD d (nameV (l.getD k 0))).2=0
  ·rw [if_pos h0,if_pos h0]
   exact mend_all k _ (by rcases h with h | h<;>omega) (by omega) hn
  ·rw [if_neg h0,if_neg h0]
theorem mend_high (K:Nat) (hK:K=if q.2.2.1=0 then q.2.1 - 1 else q.2.1) (hm:l.length≠0→1≤q.2.1):∀ (j:Nat) (d:DiskD),K+j≤l.length→mendR l q no (K+j) d=if (remA d ((l.take (K+j)).drop K).reverse).2=0 then mendR l q no K (remA d ((l.take (K+j)).drop K).reverse).1 else remA d ((l.take (K+j)).drop K).reverse
 | 0,d,h=>by
  have e:(l.take (K+0)).drop K=[]:=List.drop_eq_nil_of_le (by simp;omega)
  rw [e];simp [remA]
 |j+1,d,h=>by
  have hk:K+j < l.length:=by omega
  have es:((l.take (K+j+1)).drop K).reverse=l.getD (K+j) 0 :: ((l.take (K+j)).drop K).reverse:=by
   rw [List.take_add_one,List.getElem?_eq_getElem hk,List.drop_append_of_le_length (by simp;omega),List.getD_eq_getElem?_getD,List.getElem?_eq_getElem hk];simp
  have h1:=hm (by omega)
  rw [show K+(j+1)=K+j+1 from rfl,es,remA]
  rw [mend_nocut (show ¬ (K+j+1=q.2.1∧0 < q.2.2.1∧q.2.2.2=true) by
   rintro ⟨h2,h3,_⟩
   rw [if_neg (by omega)] at hK;omega)]
  rw [if_pos (show q.2.1≤K+j∨(K+j+1=q.2.1∧q.2.2.1=0)∨no=true by
   by_cases h3:q.2.2.1=0
   ·rw [if_pos h3] at hK;omega
   ·rw [if_neg h3] at hK;omega)]
  by_cases h0:(removeD d (nameV (l.getD (K+j) 0))).2=0
  ·rw [if_pos h0,if_pos h0]
   exact mend_high K hK hm j _ (by omega)
  ·rw [if_neg h0,if_neg h0,if_neg h0]
end
theorem mend_same {t:DiskD} {b:Int} (hr:rightB t=true):mendR (segs t) (readQ t) (noB (readQ t).1 b) (segs t).length t=goneL t b∧(isNew t b ↔ noB (readQ t).1 b=true):=by
 obtain ⟨K,h⟩:=rq t
 have hKl:K≤(segs t).length:=by have a:=h.k;have b:=h.m;split at a<;>omega
 have hgK:(readL t).g=if K=0 then 0 else (segs t).getD (K - 1) 0:=by
  by_cases hz:K=0
  ·rw [if_pos hz,(h.z hz).1];rfl
  ·rw [if_neg hz,h.g (by omega)]
 have hgr:K≠0→1≤(readL t).g∧(readL t).g ∈ (segs t).take K:=fun hz=>by
  rw [hgK,if_neg hz]
  have hk1:K - 1 < (segs t).length:=by omega
  refine ⟨(seg_rng (segs_rng t) hk1).1,?_⟩
  rw [List.getD_eq_getElem?_getD,List.getElem?_eq_getElem hk1]
  exact List.mem_take_iff_getElem.2 ⟨K - 1,by omega,rfl⟩
 have hnew:isNew t b ↔ noB (readQ t).1 b=true:=by
  unfold isNew noB wlOf
  simp only [Bool.or_eq_true,decide_eq_true_eq]
  by_cases hz:K=0
  ·rw [(h.z hz).1,(h.z hz).2];simp [rdz]
  ·obtain ⟨p1,p2,_⟩:=h.p (by omega)
   have:=(hgr hz).1
   rw [p2]
   constructor
   ·rintro (h | h)
    ·omega
    ·exact .inr h
   ·rintro (h | h)
    ·exact absurd h p1
    ·exact .inr h
 refine ⟨?_,hnew⟩
 have habove:aboveL (readL t).g (segs t)=((segs t).drop K).reverse:=by
  refine (above_all hKl (fun n hn=>?_) (fun j hj=>?_)).symm
  ·by_cases hz:K=0
   ·rw [hgK,if_pos hz];have:=segs_rng t n (List.mem_of_mem_drop hn);omega
   ·have hp:=segs_rise t
    rw [← List.take_append_drop K (segs t),List.pairwise_append] at hp
    exact hp.2.2 _ (hgr hz).2 n hn
  ·subst hj
   rw [hgK,if_neg (by omega),Nat.add_sub_cancel,List.getD_eq_getElem?_getD]
   omega
 have hhi:=mend_high (l:=segs t) (q:=readQ t) (no:=noB (readQ t).1 b) K h.k (fun hl=>h.m1 (by omega)) ((segs t).length - K) t (by omega)
 rw [show K+((segs t).length - K)=(segs t).length by omega,List.take_length] at hhi
 rw [hhi]
 unfold goneL mendL removedA
 have hwg:(wlOf (readL t)).g=(readL t).g:=rfl
 have hwc:(wlOf (readL t)).c=(readL t).c:=rfl
 rw [hwg,hwc,habove]
 rcases hx:remA t ((segs t).drop K).reverse with ⟨d,e⟩
 by_cases he:e=0
 ·subst he
  obtain ⟨hrd,hsd,hhd⟩:=rem_drop hr hKl hx
  simp only [if_true,true_and]
  have hheld:heldV d (readL t).g=heldV t (readL t).g:=by
   by_cases hz:K=0
   ·exact hhd _ (.inl (by rw [hgK,if_pos hz]))
   ·exact hhd _ (.inr (hgr hz).2)
  rw [hheld]
  have hall0:∀ d' : DiskD,segs d'=(segs t).take K→aboveL 0 (segs d')=((segs t).take K).reverse:=fun d' e=>by
   rw [e,← above_all (l:=(segs t).take K) (k:=0) (Nat.zero_le _) (fun n hn=>by have:=segs_rng t n (List.mem_of_mem_take (List.mem_of_mem_drop hn));omega) (fun j hj=>by omega)]
   simp
  by_cases hcut:(readL t).c * 72 < ((heldV t (readL t).g).length:Int)
  ·
   have hz:K≠0:=fun hz=>by
    have e0:=(h.z hz).1
    rw [e0] at hcut
    have:heldV t (rdz).g=[]:=by
     unfold heldV
     have e2:nameV (rdz).g=ByteArray.empty:=rfl
     rw [e2]
     cases hlk:disk.look ByteArray.empty t.files with
     |none=>rfl
     |some f =>
      obtain ⟨a1,a2⟩:=look_some hlk
      have hok:=(right_files hr).2.1 f a1
      unfold fileOk at hok
      rw [a2] at hok
      simp only [Bool.and_eq_true] at hok
      exact absurd hok.1.1.1 (by decide)
    rw [this] at hcut
    simp [rdz] at hcut
   have hf:(readQ t).2.2.1≠0:=fun h0=>by have:=h.c0 h0 (by omega);omega
   obtain ⟨c1,c2⟩:=h.c hf
   have hkm:K=(readQ t).2.1:=by have:=h.k;rw [if_neg hf] at this;exact this
   have hmore:(readQ t).2.2.2=true:=by rw [c2];exact decide_eq_true (by rw [c1] at hcut;omega)
   obtain ⟨k,rfl⟩:∃ k,K=k+1:=⟨K - 1,by omega⟩
   have hgk:(readL t).g=(segs t).getD k 0:=by rw [hgK,if_neg (by omega),Nat.add_sub_cancel]
   rw [mend_cut ⟨hkm,by omega,hmore⟩,if_pos hcut,← hgk,c1]
   by_cases hc0:(cutD d (nameV (readL t).g) ((((readQ t).2.2.1:Nat):Int) * 72)).2=0
   ·rw [if_pos hc0]
    have hsc:segs (cutD d (nameV (readL t).g) ((((readQ t).2.2.1:Nat):Int) * 72)).1=(segs t).take (k+1):=by rw [segs_cut hrd hc0,hsd]
    cases hno:noB (readQ t).1 b with
    |false =>
     rw [if_neg (by simp),mend_low (fun _ _=>trivial) k _ (by omega) rfl (by omega),if_neg (by rw [hnew,hno];simp)]
     exact Prod.ext rfl hc0.symm
    |true =>
     rw [if_pos (⟨hnew.2 hno,hc0⟩:isNew t b∧(cutD d (nameV (readL t).g) ((((readQ t).2.2.1:Nat):Int) * 72)).2=0),hall0 _ hsc]
     simp only [if_true]
     have es:((segs t).take (k+1)).reverse=(readL t).g :: ((segs t).take k).reverse:=by
      have hk1:k < (segs t).length:=by omega
      rw [hgk,List.take_add_one,List.getElem?_eq_getElem hk1,List.getD_eq_getElem?_getD,List.getElem?_eq_getElem hk1];simp
     rw [es,remA]
     by_cases h0:(removeD (cutD d (nameV (readL t).g) ((((readQ t).2.2.1:Nat):Int) * 72)).1 (nameV (readL t).g)).2=0
     ·simp only [if_pos h0]
      exact mend_all k _ (.inl (by omega)) (by omega) rfl
     ·simp only [if_neg h0]
   ·rw [if_neg hc0,if_neg (fun hh=>hc0 hh.2)]
  ·
   rw [if_neg hcut]
   have hnm:K < (readQ t).2.1∨(K=(readQ t).2.1∧((readQ t).2.2.1=0∨(readQ t).2.2.2=false))∨K=0:=by
    by_cases hf:(readQ t).2.2.1=0
    ·have:=h.k;rw [if_pos hf] at this;omega
    ·obtain ⟨c1,c2⟩:=h.c hf
     have:=h.k;rw [if_neg hf] at this
     refine .inr (.inl ⟨this,.inr ?_⟩)
     rw [c2];exact decide_eq_false (by rw [c1] at hcut;omega)
   cases hno:noB (readQ t).1 b with
   |true =>
    rw [if_pos (⟨hnew.2 hno,rfl⟩:isNew t b∧(((d,(0:Int)):DiskD × Int).2=0))]
    show _=remA d (aboveL 0 (segs d))
    rw [hall0 _ hsd]
    rcases hnm with hnm | hnm | hnm
    ·exact mend_all K d (.inl hnm) hKl rfl
    ·exact mend_all K d (.inr hnm) hKl rfl
    ·subst hnm;rfl
   |false =>
    rw [if_neg (fun hh=>by have:=hnew.1 hh.1;rw [hno] at this;cases this)]
    cases K with
    |zero=>rfl
    |succ k =>
     have hk:=h.k
     rw [mend_nocut,if_neg,mend_low (fun _ _=>trivial) k d _ rfl]
     ·intro h2;split at hk<;>omega
     ·split at hk<;>omega
     ·rintro (h2 | ⟨h2,h3⟩ | h2)
      ·split at hk<;>omega
      ·rw [if_pos h3] at hk;omega
      ·cases h2
     ·rintro ⟨h2,h3,h4⟩
      rcases hnm with hnm | ⟨_,hnm | hnm⟩ | hnm
      ·omega
      ·omega
      ·rw [hnm] at h4;cases h4
      ·omega
 ·rw [if_neg he,if_neg (show ¬ (((d,e):DiskD × Int).2=0∧_) from fun hh=>he hh.1),if_neg (fun hh=>he hh.2)]
theorem openR_is (t:DiskD) (b:Int):openR t b=openL t b:=by
 unfold openR
 by_cases h1:rightB t=false∨b < 0∨1000000000≤b
 ·rw [if_pos h1,open_err (by rw [o_arg h1];decide),o_arg h1]
 rw [if_neg h1]
 have hr:rightB t=true:=by
  cases hr:rightB t with
  |true=>rfl
  |false=>exact absurd (.inl hr) h1
 have hb:¬ (b < 0∨1000000000≤b):=fun h=>h1 (.inr h)
 cases hdn:t.down with
 |true=>rw [if_pos rfl,open_err (by rw [o_down hr hb hdn];decide),o_down hr hb hdn]
 |false =>
  rw [if_neg (by simp)]
  by_cases h2:0 < (segs t).length∧b+1 < (segs t).getD 0 0
  ·have e:=o_gap hr hb hdn (by omega) h2.2
   rw [if_pos h2,open_err (by rw [e];decide),e]
  rw [if_neg h2]
  have hok:opensL t b=0:=by
   unfold opensL
   rw [if_neg (o_first hr hb),if_neg (by rw [hdn];simp),if_neg]
   rw [Bool.and_eq_true,decide_eq_true_eq,decide_eq_true_eq]
   rintro ⟨a1,a2⟩
   exact h2 ⟨by omega,a2⟩
  obtain ⟨hms,hnew⟩:=mend_same (b:=b) hr
  obtain ⟨K,h⟩:=rq t
  rw [hms]
  unfold openL
  rw [if_neg (show ¬ ¬ opensL t b=0 from fun h=>h hok)]
  have hep:(¬ isNew t b∧1000000 < (wlOf (readL t)).e) ↔ 1000000≤epB (readQ t).1 b:=by
   unfold epB
   cases hno:noB (readQ t).1 b with
   |true=>rw [hnew,hno];simp
   |false =>
    rw [hnew,hno]
    have hz:K≠0:=fun hz=>by
     have:=(h.z hz).2
     rw [this] at hno
     simp [noB] at hno
    obtain ⟨_,_,p3,_⟩:=h.p (by omega)
    show (¬ (false=true)∧1000000 < (readL t).e) ↔ 1000000≤(if false=true then 0 else (lastF (readQ t).1).e)
    rw [p3]
    simp
    omega
  by_cases h3:1000000≤epB (readQ t).1 b
  ·rw [if_pos h3,if_pos (hep.2 h3)]
  rw [if_neg h3,if_neg (fun hh=>h3 (hep.1 hh))]
  by_cases h4:(goneL t b).2=0
  ·rw [if_pos h4,if_neg (show ¬ ¬ (goneL t b).2=0 from fun h=>h h4)]
   cases hno:noB (readQ t).1 b with
   |true =>
    have hk:keepD (b+1) (readL t).all=[]:=by
     unfold keepD
     rw [List.filter_eq_nil_iff]
     intro f hf
     rw [h.all] at hf
     have h1:=h.s f hf
     unfold noB at hno
     simp only [Bool.or_eq_true,decide_eq_true_eq] at hno
     rcases hno with hno | hno
     ·rw [List.eq_nil_of_length_eq_zero hno] at hf;cases hf
     ·simp;omega
    rw [hk,if_pos (hnew.2 hno)]
    rfl
   |false =>
    have hz:K≠0:=fun hz=>by
     have:=(h.z hz).2
     rw [this] at hno
     simp [noB] at hno
    obtain ⟨p1,p2,p3,p4,p5⟩:=h.p (by omega)
    have hk:keepD (b+1) (readL t).all=(readQ t).1.filter (fun f=>decide (b < f.l)):=by
     unfold keepD
     rw [h.all]
     refine List.filter_congr fun f _=>?_
     rw [Bool.eq_iff_iff];simp;omega
    have hlq:leftQ (readQ t)=K:=h.k.symm
    have hg:=h.g (by omega)
    rw [hk,if_neg (show ¬ isNew t b from fun hh=>by have:=hnew.1 hh;rw [hno] at this;cases this),hlq,← hg]
    have hw:wlOf (readL t)=⟨(lastF (readQ t).1).e+1,(lastF (readQ t).1).l+1,(lastF (readQ t).1).l,(readL t).g,(lastF (readQ t).1).l+1 - (readL t).g,[]⟩:=by
     unfold wlOf
     rw [p3,p4,p2]
     congr 1
     omega
    rw [hw]
    rfl
  ·rw [if_neg h4,if_pos h4]
end Go.Proofs.YtalhdalinpdanaaGreatDoor.wal
