/-
  WalA5, Awake12
-/
import Derived.Test.YtalhdalinpdanaaGreatDoorMwa47
import Derived.Test.YtalhdalinpdanaaGreatDoorMwa18
set_option linter.unusedVariables false
set_option linter.unusedSimpArgs false
section
namespace Go.Proofs.YtalhdalinpdanaaGreatDoor.wal
set_option maxRecDepth 20000
open Go.RowKit Go.Proofs.YtalhdalinpdanaaGreatDoor Go.Proofs.YtalhdalinpdanaaGreatDoor.frame Go.Proofs.YtalhdalinpdanaaGreatDoor.disk
def Sures (fs:List FileD):Prop := ∀ f ∈ fs,(f.data.length:Int)=f.sure
theorem sures_keep {m:Int} {fs:List FileD} (h:Sures fs):Sures (keepTo m fs):=fun f hf=>h f (mem_keep.1 hf).1
theorem sures_cutTo {g k:Int} {fs:List FileD} (hr:Row fs) (hk:0≤k) (h:Sures fs):Sures (cutTo g k fs):=by
 unfold cutTo
 split
 ·rename_i hlt
  obtain ⟨f,h1,h2,h3,h4,h5⟩:=held_some hk hlt
  intro x hx
  unfold cutF at hx
  rcases (mem_with hr).1 hx with rfl | ⟨hx,_⟩
  ·have h6:=h f h3
   rw [h5] at hlt
   show ((((oldOf (nameV g) fs).data.take k.toNat).length:Nat):Int)=if k < (oldOf (nameV g) fs).sure then k else (oldOf (nameV g) fs).sure
   rw [h2,List.length_take,if_pos (by omega)];omega
  ·exact h x hx
 ·exact h
theorem sures_back {keep:List Int} {fs:List FileD} (h:∀ f ∈ fs,fileOk f=true):Sures (backF keep fs):=fun g hg=>by
 obtain ⟨i,f,_,hf,rfl⟩:=mem_back hg
 have:=kept_ok (keep:=keep) (i:=i) (h f hf)
 exact this.2.2.1
theorem cut_nums {g k x:Int} {fs:List FileD} (hr:Row fs) (hk:0≤k):(∃ f ∈ cutTo g k fs,numOf f.name=x) ↔ ∃ f ∈ fs,numOf f.name=x:=by
 unfold cutTo
 split
 ·rename_i hlt
  obtain ⟨f,h1,h2,h3,h4,h5⟩:=held_some hk hlt
  unfold cutF
  constructor
  ·rintro ⟨y,hy,rfl⟩
   rcases (mem_with hr).1 hy with rfl | ⟨hy,_⟩
   ·exact ⟨f,h3,by rw [h2]⟩
   ·exact ⟨y,hy,rfl⟩
  ·rintro ⟨y,hy,rfl⟩
   by_cases hn:y.name=(oldOf (nameV g) fs).name
   ·exact ⟨_,(mem_with hr).2 (.inl rfl),by show numOf (oldOf (nameV g) fs).name=_;rw [hn]⟩
   ·exact ⟨y,(mem_with hr).2 (.inr ⟨hy,hn⟩),rfl⟩
 ·exact Iff.rfl
theorem cut_le {g k m:Int} {fs:List FileD} (hr:Row fs) (hk:0≤k) (h:∀ f ∈ fs,numOf f.name≤m):∀ f ∈ cutTo g k fs,numOf f.name≤m:=fun f hf=>by
 obtain ⟨y,hy,e⟩:=(cut_nums (g:=g) (k:=k) (x:=numOf f.name) hr hk).1 ⟨f,hf,rfl⟩
 rw [← e];exact h y hy
theorem cut_cut {g k:Int} {fs:List FileD} (hr:Row fs) (hk:0≤k):cutTo g k (cutTo g k fs)=cutTo g k fs:=by
 by_cases hlt:k < ((heldF fs g).length:Int)
 ·have e:cutTo g k fs=cutF fs (nameV g) k:=if_pos hlt
  rw [e]
  unfold cutTo
  refine if_neg ?_
  rw [cut_held hr hk hlt,List.length_take];omega
 ·have e:cutTo g k fs=fs:=if_neg hlt
  rw [e,e]
section
variable {t z:DiskD} {b m:Int}
abbrev cutG (t:DiskD):List FileD:=cutTo (readL t).g ((readL t).c * 72) (keepTo (readL t).g t.files)
theorem c72 (t:DiskD):0≤(readL t).c * 72:=by have:=(readL_rng t).c0;omega
theorem fin_mid2 (hr:rightB t=true) (h:z.files=cutG t) (hz:readL z=readL t):fin z b=fin t b:=by
 have hrow:=(right_files hr).2.2.1
 unfold fin
 by_cases hn:isNew t b
 ·rw [if_pos hn,if_pos ((new_of hz).2 hn),h]
  exact keep0 hrow (right_files hr).2.1 (readL_rng t).g0 (c72 t)
 ·rw [if_neg hn,if_neg (fun h=>hn ((new_of hz).1 h)),hz,h,keep_self (cut_le (row_keep hrow) (c72 t) fun f hf=>(mem_keep.1 hf).2),cut_cut (row_keep hrow) (c72 t)]
theorem fin_mid3 (hr:rightB t=true) (h:z.files=keepTo m (cutG t)) (h0:0≤m) (hn:isNew t b) (hz:isNew z b):fin z b=fin t b:=by
 unfold fin
 rw [if_pos hn,if_pos hz,h,keep_keep,show min 0 m=0 by omega]
 exact keep0 (right_files hr).2.2.1 (right_files hr).2.1 (readL_rng t).g0 (c72 t)
structure Mid (b:Int) (t z:DiskD):Prop where
 n:isNew t b→isNew z b
 w:newW z b=newW t b
 f:fin z b=fin t b
 l:keepD (b+1) (readL z).all=keepD (b+1) (readL t).all
 e:isNew z b∨(readL z).e=(readL t).e
theorem mid_read (hz:readL z=readL t) (hf:fin z b=fin t b):Mid b t z:=by
 refine ⟨(new_of hz).2,?_,hf,by rw [hz],.inr (by rw [hz])⟩
 unfold newW
 by_cases hn:isNew t b
 ·rw [if_pos hn,if_pos ((new_of hz).2 hn)]
 ·rw [if_neg hn,if_neg (fun h=>hn ((new_of hz).1 h)),hz]
theorem mid_new (hb:0≤b) (hn:isNew t b) (hz:isNew z b) (hf:fin z b=fin t b):Mid b t z:=by
 refine ⟨fun _=>hz,?_,hf,by rw [new_keep hb hn,new_keep hb hz],.inl hz⟩
 unfold newW
 rw [if_pos hn,if_pos hz]
theorem mended (hr:rightB t=true):∃ y:DiskD,rightB y=true∧y.files=cutG t∧readL y=readL t:=by
 have h0:rightB ⟨t.files,t.room, -1,false⟩=true:=by
  obtain ⟨r1,_,r3⟩:=(right_iff t).1 hr
  exact (right_iff _).2 ⟨r1,Int.le_refl _,r3⟩
 have hrg:=readL_rng t
 have hM:=mend_files (s:=wlOf (readL t)) (t:=⟨t.files,t.room, -1,false⟩) hrg.g0 hrg.c0.1 h0 rfl
 have hr2:rightB (mendL (wlOf (readL t)) ⟨t.files,t.room, -1,false⟩).1=true:=mend_right h0
 have he:(mendL (wlOf (readL t)) ⟨t.files,t.room, -1,false⟩).2=0:=by
  by_cases h:(mendL (wlOf (readL t)) ⟨t.files,t.room, -1,false⟩).2=0
  ·exact h
  ·exact absurd rfl (hM.no h).2
 have hf:=(hM.ok he).1
 exact ⟨_,hr2,hf,read_mid2 hr hr2 hf⟩
theorem gone_mid (hr:rightB t=true) (hz:rightB z=true) (hb:0≤b) (h:(∃ m,(readL t).g≤m∧z.files=keepTo m t.files)∨(∃ m,0≤m∧(m=1000000000∨isNew t b)∧z.files=keepTo m (cutG t))):Mid b t z:=by
 rcases h with ⟨m,h1,h2⟩ | ⟨m,h1,h2,h3⟩
 ·have e:=read_mid1 hr hz h2 h1
  exact mid_read e (fin_mid1 h2 e h1 (Int.le_trans (readL_rng t).g0.1 h1))
 ·rcases h2 with rfl | hn
  ·rw [keep_self fun f _=>num_le _] at h3
   have e:=read_mid2 hr hz h3
   exact mid_read e (fin_mid2 hr h3 e)
  ·obtain ⟨y,y1,y2,y3⟩:=mended hr
   have hzn:isNew z b:=by
    rcases hn with hn | hn
    ·have e:readL z=readL y:=read_mid1 y1 hz (by rw [h3,y2]) (by rw [y3];have h4:(readL t).g=0:=hn;omega)
     exact .inl (by show (readL z).g=0;rw [e,y3];exact hn)
    ·have e:=read_mid3 y1 hz (m:=m) (by rw [h3,y2])
     rw [y3] at e
     exact .inr (Int.lt_of_le_of_lt e hn)
   exact mid_new hb hn hzn (fin_mid3 hr h3 h1 hn hzn)
theorem opens_zero (hr:rightB t=true) (hd:t.down=false) (hb:0≤b∧b < 1000000000) (hs:0 < (segs t).length→(segs t).getD 0 0≤b+1):opensL t b=0:=by
 unfold opensL
 rw [if_neg (by rw [hr];simp;omega),if_neg (by rw [hd];decide),if_neg]
 intro h
 rw [Bool.and_eq_true,decide_eq_true_eq,decide_eq_true_eq] at h
 have:=hs (by omega);omega
theorem opens_head (h:opensL t b=0) (hl:0 < (segs t).length):(segs t).getD 0 0≤b+1:=by
 refine Int.not_lt.1 fun hlt=>?_
 unfold opensL at h
 split at h
 ·cases h
 ·split at h
  ·cases h
  ·split at h
   ·cases h
   ·rename_i h3
    apply h3
    rw [Bool.and_eq_true,decide_eq_true_eq,decide_eq_true_eq]
    exact ⟨by omega,hlt⟩
theorem head_filter {l:List Int} (hp:l.Pairwise (· < ·)) (h:0 < (l.filter fun x=>decide (x≤m)).length):0 < l.length∧(l.filter fun x=>decide (x≤m)).getD 0 0=l.getD 0 0:=by
 cases l with
 |nil=>simp at h
 |cons a l =>
  obtain ⟨p1,p2⟩:=List.pairwise_cons.1 hp
  by_cases ha:a≤m
  ·rw [List.filter_cons_of_pos (by simpa using ha)];exact ⟨by simp,rfl⟩
  ·have hall:∀ x ∈ a :: l,m < x:=fun x hx=>by
    rcases List.mem_cons.1 hx with rfl | hx
    ·omega
    ·have:=p1 x hx;omega
   rw [filt_nil hall] at h
   simp at h
theorem head_ok (hz:∀ x,x ∈ segs z ↔ x ∈ segs t∧x≤m) (h:opensL t b=0) (hl:0 < (segs z).length):(segs z).getD 0 0≤b+1:=by
 have e:segs z=(segs t).filter fun x=>decide (x≤m):=rise_ext (segs_rise z) ((segs_rise t).filter _) fun x=>by rw [hz,List.mem_filter,decide_eq_true_eq]
 rw [e] at hl ⊢
 obtain ⟨h1,h2⟩:=head_filter (segs_rise t) hl
 rw [h2];exact opens_head h h1
theorem segs_mid1 (hr:rightB t=true) (hz:rightB z=true) (h:z.files=keepTo m t.files) (x:Int):x ∈ segs z ↔ x ∈ segs t∧x≤m:=by
 rw [segs_keep hr hz h,List.mem_filter,decide_eq_true_eq]
theorem segs_mid2 (hr:rightB t=true) (hz:rightB z=true) (h:z.files=keepTo m (cutG t)) (x:Int):x ∈ segs z ↔ x ∈ segs t∧x≤min m (readL t).g:=by
 have hrow:=(right_files hr).2.2.1
 rw [segs_iff hz,segs_iff hr,h]
 have hc:=cut_nums (g:=(readL t).g) (k:=(readL t).c * 72) (x:=x) (row_keep (m:=(readL t).g) hrow) (c72 t)
 constructor
 ·rintro ⟨h0,f,hf,rfl⟩
  obtain ⟨hf1,hf2⟩:=mem_keep.1 hf
  obtain ⟨y,hy,e⟩:=hc.1 ⟨f,hf1,rfl⟩
  obtain ⟨hy1,hy2⟩:=mem_keep.1 hy
  exact ⟨⟨h0,y,hy1,e⟩,by omega⟩
 ·rintro ⟨⟨h0,y,hy,rfl⟩,hm⟩
  obtain ⟨f,hf,e⟩:=hc.2 ⟨y,mem_keep.2 ⟨hy,by omega⟩,rfl⟩
  exact ⟨h0,f,mem_keep.2 ⟨hf,by omega⟩,e⟩
theorem gone_opens (hr:rightB t=true) (hz:rightB z=true) (hd:z.down=false) (ho:opensL t b=0) (h:(∃ m,(readL t).g≤m∧z.files=keepTo m t.files)∨(∃ m,0≤m∧(m=1000000000∨isNew t b)∧z.files=keepTo m (cutG t))):opensL z b=0:=by
 refine opens_zero hz hd (opens_rng ho) fun hl=>?_
 rcases h with ⟨m,_,h2⟩ | ⟨m,_,_,h3⟩
 ·exact head_ok (segs_mid1 hr hz h2) ho hl
 ·exact head_ok (segs_mid2 hr hz h3) ho hl
structure RdGood (r:RdS):Prop where
 e:1≤r.e
 c:1≤r.c
 n:r.n=r.u+1
 g:r.g+r.c=r.u+1
theorem step_good {r:RdS} {a:Int} (h:(scanV t a r.ep).length≠0):RdGood (stepR t r a):=by
 have h1:=scan_rng t a r.ep (by omega)
 obtain ⟨u1,u2,u3⟩:=step_u h
 refine ⟨by show 1≤_+(1:Int);omega,by show (1:Int)≤((scanV t a r.ep).length:Int);omega,u2,?_⟩
 rw [u1,u3]
 show a+((scanV t a r.ep).length:Int)=_
 omega
theorem g_good:∀ (l:List Int) (r:RdS),(r.g=0∨RdGood r)→(readG t l r).g=0∨RdGood (readG t l r)
 | [],r,h=>h
 |a :: l,r,h=>by
  rw [readG]
  split
  ·exact h
  ·split
   ·exact h
   ·rename_i hz
    split
    ·exact .inr (step_good hz)
    ·exact g_good l _ (.inr (step_good hz))
theorem right_none {e n u g c:Int} (h1:1≤e∧e≤1000000∧1≤n∧n≤1000000001∧0≤u∧u≤n - 1∧n - u - 1=0) (h2:(g=0∧c=0)∨(1≤g∧g≤1000000001∧1≤c∧c≤8∧g+c=u+1)):right ⟨e,n,u,g,c,[]⟩=true:=by
 unfold right
 rw [decide_eq_true (show _ from ?_),decide_eq_true h2]
 ·rfl
 ·simp only [List.length_nil];omega
theorem new_right (hb:0≤b∧b < 1000000000) (he:isNew t b∨(readL t).e≤1000000):right (newW t b)=true:=by
 unfold newW
 split
 ·exact right_none (by omega) (by omega)
 ·rename_i hn
  have hrg:=readL_rng t
  have he2:=he.resolve_left hn
  have hg:(readL t).g≠0:=fun h=>hn (.inl h)
  obtain ⟨g1,g2,g3,g4⟩:=(g_good (t:=t) (segs t) rdz (.inl rfl)).resolve_left hg
  have e1:(1:Int)≤(readL t).e:=g1
  have e2:(1:Int)≤(readL t).c:=g2
  have e3:(readL t).n=(readL t).u+1:=g3
  have e4:(readL t).g+(readL t).c=(readL t).u+1:=g4
  obtain ⟨_,q2,q3,q4,q5⟩:=hrg
  exact right_none (by omega) (by omega)
theorem open_zero (h:(openL t b).2.2.2=0):opensL t b=0∧(isNew t b∨(readL t).e≤1000000):=by
 unfold openL at h
 split at h
 ·rename_i h1;exact absurd h h1
 ·rename_i h1
  split at h
  ·cases h
  ·rename_i h2
   refine ⟨by omega,?_⟩
   by_cases hn:isNew t b
   ·exact .inl hn
   ·exact .inr (Int.not_lt.1 fun h3=>h2 ⟨hn,h3⟩)
theorem again_err (hp:Plain t) (h:¬ (openL t b).2.2.2=0):(openL t b).2.1=t:=by
 unfold openL at h ⊢
 split
 ·rfl
 ·rename_i h1
  rw [if_neg h1] at h
  split
  ·rfl
  ·rename_i h2
   rw [if_neg h2] at h
   split
   ·rename_i h3
    exact absurd hp.2.2 ((gone_files b hp.1 hp.2.1).no h3).2
   ·rename_i h3
    rw [if_neg h3] at h
    exact absurd rfl h
theorem open_mid (hp:Plain t) (hs:Sures t.files) (ho:opensL t b=0) (he:isNew t b∨(readL t).e≤1000000) (hz:rightB z=true) (hm:z.room=t.room) (h:(∃ m,(readL t).g≤m∧z.files=keepTo m t.files)∨(∃ m,0≤m∧(m=1000000000∨isNew t b)∧z.files=keepTo m (cutG t))) (keep:List Int) :
  (backD z keep (-1)).2=0∧openL (backD z keep (-1)).1 b=openL t b:=by
 have hsz:Sures z.files:=by
  rcases h with ⟨m,_,h2⟩ | ⟨m,_,_,h3⟩
  ·rw [h2];exact sures_keep hs
  ·rw [h3];exact sures_keep (sures_cutTo (row_keep (right_files hp.1).2.2.1) (c72 t) (sures_keep hs))
 obtain ⟨b1,b2,b3⟩:=plain_back hz keep
 rw [back_again keep hsz] at b3
 have b4:(backD z keep (-1)).1.room=t.room:=by
  unfold backD
  split
  ·exact hm
  ·exact hm
 obtain ⟨y,hy⟩:∃ y,(backD z keep (-1)).1=y:=⟨_,rfl⟩
 rw [hy] at b2 b3 b4 ⊢
 rw [← b3] at h
 have hM:=gone_mid hp.1 b2.1 (opens_rng ho).1 h
 have hoy:=gone_opens hp.1 b2.1 b2.2.1 ho h
 refine ⟨b1,?_⟩
 rw [open_plain hp ho he,open_plain b2 hoy (by
  rcases he with he | he
  ·exact .inl (hM.n he)
  ·rcases hM.e with h | h
   ·exact .inl h
   ·exact .inr (by omega)),hM.w,hM.f,hM.l,b4]
theorem again_same (hp:Plain t) (h:(openL t b).2.2.2=0):right (openL t b).1=true∧openL (openL t b).2.1 b=openL t b:=by
 obtain ⟨ho,he⟩:=open_zero h
 have hb:=opens_rng ho
 have e:=open_plain hp ho he
 refine ⟨by rw [e];exact new_right hb he,?_⟩
 obtain ⟨gf,gm,gok,gno,gr⟩:=gone_files b hp.1 hp.2.1
 have h0:(goneL t b).2=0:=by
  by_cases h:(goneL t b).2=0
  ·exact h
  ·exact absurd hp.2.2 (gno h).2
 obtain ⟨f2,d2,u2⟩:=gok h0
 have e1:(openL t b).2.1=(goneL t b).1:=by
  unfold openL
  rw [if_neg (by omega),if_neg (fun h=>he.elim h.1 (fun h2=>by have h3:1000000 < (readL t).e:=h.2;omega)),if_neg (by rw [h0];simp)]
 have hpx:Plain (goneL t b).1:=⟨gr,d2,u2 hp.2.2⟩
 have hM:=gone_mid hp.1 gr hb.1 gf
 have hox:=gone_opens hp.1 gr d2 ho gf
 rw [e1,open_plain hpx hox (by
  rcases he with he | he
  ·exact .inl (hM.n he)
  ·rcases hM.e with h | h
   ·exact .inl h
   ·exact .inr (by omega)),e,hM.w,hM.f,hM.l,gm]
theorem again_cut (hp:Plain t) (hs:Sures t.files) (h:(openL t b).2.2.2=0) {k:Int} (hk:0≤k) :
  ((openL ⟨t.files,t.room,k,t.down⟩ b).2.2.2=0∨(openL ⟨t.files,t.room,k,t.down⟩ b).2.2.2=9) ∧
   ∀ keep,(backD (openL ⟨t.files,t.room,k,t.down⟩ b).2.1 keep (-1)).2=0∧openL (backD (openL ⟨t.files,t.room,k,t.down⟩ b).2.1 keep (-1)).1 b=openL t b:=by
 obtain ⟨ho,he⟩:=open_zero h
 have hb:=opens_rng ho
 obtain ⟨c,hc⟩:∃ c:DiskD,c=⟨t.files,t.room,k,t.down⟩:=⟨_,rfl⟩
 rw [← hc]
 have hcf:c.files=t.files:=by rw [hc]
 have hcd:c.down=false:=by rw [hc];exact hp.2.1
 have hcr:rightB c=true:=by
  obtain ⟨r1,_,r3⟩:=(right_iff t).1 hp.1
  rw [hc]
  exact (right_iff _).2 ⟨r1,by show -1≤k;omega,r3⟩
 have hck:c.files=keepTo 1000000000 t.files:=by rw [hcf];exact (keep_self fun f _=>num_le _).symm
 have hread:readL c=readL t:=read_mid1 hp.1 hcr hck (readL_rng t).g0.2
 have hoc:opensL c b=0:=opens_zero hcr hcd hb (head_ok (segs_mid1 hp.1 hcr hck) ho)
 have hnew:=new_of (b:=b) hread
 obtain ⟨gf,gm,gok,gno,gr⟩:=gone_files b hcr hcd
 have gf2:(∃ m,(readL t).g≤m∧(goneL c b).1.files=keepTo m t.files)∨(∃ m,0≤m∧(m=1000000000∨isNew t b)∧(goneL c b).1.files=keepTo m (cutG t)):=by
  rw [hread,hcf] at gf
  rcases gf with ⟨m,h1,h2⟩ | ⟨m,h1,h2,h3⟩
  ·exact .inl ⟨m,h1,h2⟩
  ·exact .inr ⟨m,h1,h2.imp id hnew.1,h3⟩
 have hroom:(goneL c b).1.room=t.room:=by rw [gm,hc]
 have e2:¬ (¬ isNew c b∧1000000 < (wlOf (readL c)).e):=fun h=>by
  rcases he with he | he
  ·exact h.1 (hnew.2 he)
  ·have h3:1000000 < (readL c).e:=h.2
   rw [hread] at h3;omega
 have e3:(openL c b).2.1=(goneL c b).1∧(openL c b).2.2.2=(goneL c b).2:=by
  unfold openL
  rw [if_neg (by omega),if_neg e2]
  split
  ·exact ⟨rfl,rfl⟩
  ·rename_i h3
   exact ⟨rfl,by show (0:Int)=_;omega⟩
 rw [e3.1,e3.2]
 refine ⟨?_,open_mid hp hs ho he gr hroom gf2⟩
 by_cases h0:(goneL c b).2=0
 ·exact .inl h0
 ·exact .inr (gno h0).1
end
end Go.Proofs.YtalhdalinpdanaaGreatDoor.wal
end
section
namespace Go.Proofs.YtalhdalinpdanaaGreatDoor.wal
open Go.RowKit Go.Proofs.YtalhdalinpdanaaGreatDoor Go.Proofs.YtalhdalinpdanaaGreatDoor.frame Go.Proofs.YtalhdalinpdanaaGreatDoor.disk
set_option maxRecDepth 20000
def aD:DiskD:=⟨[],5000, -1,false⟩
def aW:Nat→Wl
 | 0=>⟨1,1,0,0,0,[]⟩
 |i+1=>(putW (aW i) 3 ((i+1:Nat):Int) 0 0 0 0 0).1
def aC:Wl:=⟨1,10,9,9,1,[]⟩
def aX:Wl:=⟨2,10,9,9,1,[]⟩
abbrev RA (aW:Nat→Wl):World→(Nat→Prop)→Jv × Nat→Prop:=fun w S b=>InJ w S b.1 (aW b.2)
theorem keeps_a {aW:Nat→Wl} : Keeps3 (RA aW):=fun w w' S S' b h ha hs=>h.keep ha.alike hs
theorem aJ0 {aW:Nat→Wl} (e:aW 0=⟨1,1,0,0,0,[]⟩) {w:World} {S:Nat→Prop} : InJ w S ⟨none,0⟩ (aW 0):=by rw [e];exact nil_j (by unfold inI;omega)
theorem aX_in {w:World} : InJ w (Lt w.heap.size) ⟨none,0⟩ aX:=nil_j (by unfold inI;omega)
theorem aO:openL aD 0=(aW 0,aD,[],0):=by kernel_rfl
theorem aP_err:∀ i < 9,(putW (aW i) 3 ((i+1:Nat):Int) 0 0 0 0 0).2=0:=by decide +kernel
theorem aP (i:Nat) (h:i < 9):putW (aW i) 3 ((i+1:Nat):Int) 0 0 0 0 0=(aW (i+1),0):=by
 exact Prod.ext rfl (aP_err i h)
theorem aC_is:(commitL (aW 9) aD).1=aC∧(commitL (aW 9) aD).2.2=0:=by decide +kernel
theorem aCq {aW:Nat→Wl} {i:Nat} {aE:DiskD} (e:commitL (aW 9) aD=(aC,aE,0)) (h:i=9):commitL (aW i) aD=(aC,aE,0):=by
 subst h;exact e
theorem aR:right aX=true:=by decide +kernel
theorem aN9:nameV 9=⟨#[108,111,103,46,48,48,48,48,48,48,48,48,48,57]⟩:=by decide +kernel
theorem aNm {w0:World} {D:List Fact} (ht:TabW w0):Gives Tryz.prog w0 D 24 #[.int .i64 9] (.string ⟨#[108,111,103,46,48,48,48,48,48,48,48,48,48,57]⟩):=by
 rw [← aN9];exact n_name (by unfold inI;omega) ht
theorem aD_in {w0:World} {D:List Fact} {S:Nat→Prop} : ∀ w,Below w0.heap.size w0 w→All D w→InD w S ⟨none,0,[]⟩ aD:=fun w _ _ =>
 ⟨fun hk=>absurd hk (Nat.lt_irrefl 0),rfl,Nat.le_refl _,Nat.zero_le _,by unfold inI aD;simp,by unfold inI aD;simp⟩
theorem awake_gen (aW:Nat→Wl) (a0:aW 0=⟨1,1,0,0,0,[]⟩) (aO:openL aD 0=(aW 0,aD,[],0)) (aP:∀ i:Nat,i < 9→putW (aW i) 3 ((i+1:Nat):Int) 0 0 0 0 0=(aW (i+1),0)) (aE aG:DiskD) (aL:List FrameD) (aCm:commitL (aW 9) aD=(aC,aE,0)) (aQ:openL aE 3=(aX,aG,aL,0)) (hL:aL.length=6) (aSg:segs aE=[1,9]) (aEs:shortB aE.files=true)  (w:World) (ht:TabW w) (he:ErrVar w):Calls Tryz.prog 9 #[] w fun e w'=>e = .returned (.bool true)∧Below w.heap.size w w' :=
 have hnm:decide ((⟨#[108,111,103,46,48,48,48,48,48,48,48,48,48,57]⟩:ByteArray)=⟨#[108,111,103,46,48,48,48,48,48,48,48,48,48,57]⟩)=true:=decide_eq_true rfl
 calls_by (fn:=Tryz.f9) (r:=.bool true) (t:=.cm (Dat (RO (aW 0,aD,[],0)) (fun _=>False) w) (fun x=>.tuple #[.agg #[.int .i64 ((aW 0).e),.int .i64 ((aW 0).n),.int .i64 ((aW 0).u),.int .i64 ((aW 0).g),.int .i64 ((aW 0).c),.slice ((⟨none,0⟩:Jv).A) ((aW 0).ws.length) ((⟨none,0⟩:Jv).c)],.agg (dc x.1.2.2.1 aD),.slice x.1.2.2.2.1 0 x.1.2.2.2.2,.int .i64 0]) (fun x=>[poolF x.1.1 x.1.2.1]) (fun x1=>.l (Dat (RA aW) (Un (fun _=>False) x1.1.2.1) x1.1.1) (fun x=>[(1,undef,some (0,0)),(2,undef,some (1,0)),(4,.int .i64 0,none),(5,.int .i64 (x.1.2.2.2:Int),none)]) (fun x=>[(0,#[.int .i64 ((aW x.1.2.2.2).e),.int .i64 ((aW x.1.2.2.2).n),.int .i64 ((aW x.1.2.2.2).u),.int .i64 ((aW x.1.2.2.2).g),.int .i64 ((aW x.1.2.2.2).c),.slice x.1.2.2.1.A ((aW x.1.2.2.2).ws.length) x.1.2.2.1.c])]) [0,1] [poolF x1.1.1 (fun _=>False)] (fun x=>[poolF x.1.1 x.1.2.1,poolF x1.1.1 x1.1.2.1]) (fun x=>x.1.2.2.2≤9) (fun x=>9 - x.1.2.2.2) ((given_ (w:=x1.1.1) (R:=RA aW) (b:=(⟨none,0⟩,0)) (aJ0 a0) keeps_a):Dat (RA aW) (Un (fun _=>False) x1.1.2.1) x1.1.1) (fun y2=>let k0:Value:=.int .i64 ((y2.1.2.2.2+1:Nat):Int); .s (.e k0 (.cm (Dat (fun w S v=>InJ w S v (aW (y2.1.2.2.2+1))) (Un (Un (fun _=>False) x1.1.2.1) y2.1.2.1) y2.1.1) (fun x=>.tuple #[.agg (jc x.1.2.2 (aW (y2.1.2.2.2+1))),.int .i64 0]) (fun x=>[poolF x.1.1 x.1.2.1]) (fun x6=>.k (.e k0 .z)))) (.cm (Dat (RW (aC,aE,0)) (Un (Un (fun _=>False) x1.1.2.1) y2.1.2.1) y2.1.1) (fun x=>.tuple #[.agg (jc x.1.2.2.1 aC),.agg (dc x.1.2.2.2 aE),.int .i64 0]) (fun x=>[poolF x.1.1 x.1.2.1]) (fun x7=>.cm (Dat (RO (aX,aG,aL,0)) (Un (Un (Un (fun _=>False) x1.1.2.1) y2.1.2.1) x7.1.2.1) x7.1.1) (fun x=>.tuple #[.agg (jc ⟨none,0⟩ aX),.agg (dc x.1.2.2.1 aG),.slice x.1.2.2.2.1 6 x.1.2.2.2.2,.int .i64 0]) (fun x=>[poolF x.1.1 x.1.2.1]) (fun x8=>.cm (Option Addr × Nat) (fun x=>.slice x.1 2 x.2) (fun x=>[ownF (rdInt .i64) 1 2 x.1 2 x.2 ([1,9])]) (fun x9=>.k (.k (.k (.k (.k (.k (.k (.k (.k (.k (.k (.k (.k (.k (.k (.k (.k (.k (.k (.k (.q (blkA x9.1) (offA x9.1+1 * 1) #[.int .i64 (([1,9]).getD 1 0)] (.e (.bool true) (.k (.c (.string (⟨#[108,111,103,46,48,48,48,48,48,48,48,48,48,57]⟩)) (.x (.bool true) (.k (.c (.bool true) .z))))))))))))))))))))))))))))))))) (X :=
 let k0:Value:=.string (⟨#[108,111,103,46,48,48,48,48,48,48,48,48,48,57]⟩);let k1:Array Value:=#[.int .i64 ((aW 0).e),.int .i64 ((aW 0).n),.int .i64 ((aW 0).u),.int .i64 ((aW 0).g),.int .i64 ((aW 0).c),.slice ((⟨none,0⟩:Jv).A) ((aW 0).ws.length) ((⟨none,0⟩:Jv).c)];GivesM Tryz.prog w [] 26 #[.agg #[.slice none 0 0,.int .i64 5000,.int .i64 (-1),.bool false],.int .i64 0] (Dat (RO (aW 0,aD,[],0)) (fun _=>False) w) (fun x=>.tuple #[.agg k1,.agg (dc x.1.2.2.1 aD),.slice x.1.2.2.2.1 0 x.1.2.2.2.2,.int .i64 0]) (fun x=>[poolF x.1.1 x.1.2.1])∧∀ x1:Dat (RO (aW 0,aD,[],0)) (fun _=>False) w,let k2:=dc x1.1.2.2.1 aD;  ∀ g0:Nat,let k3:Option Addr:=some ⟨g0,0,none⟩;  ∀ g1:Nat,let k4:Option Addr:=some ⟨g1,0,none⟩;Brings w [poolF x1.1.1 x1.1.2.1] [poolF x1.1.1 (fun _=>False)]∧(((given_ (w:=x1.1.1) (R:=RA aW) (b:=(⟨none,0⟩,0)) (aJ0 a0) keeps_a):Dat (RA aW) (Un (fun _=>False) x1.1.2.1) x1.1.1).1.2.2.2≤9)∧(([.pointer k3,.pointer k4,.int .i64 0,.int .i64 0]:List Value)=[.pointer k3,.pointer k4,.int .i64 0,.int .i64 (((given_ (w:=x1.1.1) (R:=RA aW) (b:=(⟨none,0⟩,0)) (aJ0 a0) keeps_a):Dat (RA aW) (Un (fun _=>False) x1.1.2.1) x1.1.1).1.2.2.2:Int)]∧([some ⟨g1,0,k2,.own 27⟩,some ⟨g0,0,k1,.own 24⟩]:List (Option Blk))=[some ⟨g1,0,k2,.own 27⟩,some ⟨g0,0,#[.int .i64 ((aW ((given_ (w:=x1.1.1) (R:=RA aW) (b:=(⟨none,0⟩,0)) (aJ0 a0) keeps_a):Dat (RA aW) (Un (fun _=>False) x1.1.2.1) x1.1.1).1.2.2.2).e),.int .i64 ((aW ((given_ (w:=x1.1.1) (R:=RA aW) (b:=(⟨none,0⟩,0)) (aJ0 a0) keeps_a):Dat (RA aW) (Un (fun _=>False) x1.1.2.1) x1.1.1).1.2.2.2).n),.int .i64 ((aW ((given_ (w:=x1.1.1) (R:=RA aW) (b:=(⟨none,0⟩,0)) (aJ0 a0) keeps_a):Dat (RA aW) (Un (fun _=>False) x1.1.2.1) x1.1.1).1.2.2.2).u),.int .i64 ((aW ((given_ (w:=x1.1.1) (R:=RA aW) (b:=(⟨none,0⟩,0)) (aJ0 a0) keeps_a):Dat (RA aW) (Un (fun _=>False) x1.1.2.1) x1.1.1).1.2.2.2).g),.int .i64 ((aW ((given_ (w:=x1.1.1) (R:=RA aW) (b:=(⟨none,0⟩,0)) (aJ0 a0) keeps_a):Dat (RA aW) (Un (fun _=>False) x1.1.2.1) x1.1.1).1.2.2.2).c),.slice (((given_ (w:=x1.1.1) (R:=RA aW) (b:=(⟨none,0⟩,0)) (aJ0 a0) keeps_a):Dat (RA aW) (Un (fun _=>False) x1.1.2.1) x1.1.1).1.2.2.1.A) ((aW ((given_ (w:=x1.1.1) (R:=RA aW) (b:=(⟨none,0⟩,0)) (aJ0 a0) keeps_a):Dat (RA aW) (Un (fun _=>False) x1.1.2.1) x1.1.1).1.2.2.2).ws.length) (((given_ (w:=x1.1.1) (R:=RA aW) (b:=(⟨none,0⟩,0)) (aJ0 a0) keeps_a):Dat (RA aW) (Un (fun _=>False) x1.1.2.1) x1.1.1).1.2.2.1.c)],.own 24⟩]∧Turns w [poolF x1.1.1 (fun _=>False),poolF x1.1.1 x1.1.2.1] [poolF ((given_ (w:=x1.1.1) (R:=RA aW) (b:=(⟨none,0⟩,0)) (aJ0 a0) keeps_a):Dat (RA aW) (Un (fun _=>False) x1.1.2.1) x1.1.1).1.1 ((given_ (w:=x1.1.1) (R:=RA aW) (b:=(⟨none,0⟩,0)) (aJ0 a0) keeps_a):Dat (RA aW) (Un (fun _=>False) x1.1.2.1) x1.1.1).1.2.1,poolF x1.1.1 x1.1.2.1])∧true=true∧∀ (y2:Dat (RA aW) (Un (fun _=>False) x1.1.2.1) x1.1.1),(y2.1.2.2.2≤9)→∀ τ4:Nat→Value,let k5:=((y2.1.2.2.2+1:Nat):Int);let k8:=(y2.1.2.2.2:Int);let k6:=(.int .i64 (IntKind.i64.wrap (k8+1)):Value);let k7:=aW (y2.1.2.2.2+1);let k9:List Fact:=[poolF y2.1.1 y2.1.2.1,poolF x1.1.1 x1.1.2.1];let k10:=jc y2.1.2.2.1 (aW y2.1.2.2.2);((decide (k8 < 9))=true→k6 = .int .i64 k5∧GivesM Tryz.prog w k9 11 #[.agg k10,.int .i64 3,.agg #[.int .i64 k5,.int .i64 0,.int .i64 0,.int .i64 0,.int .i64 0,.int .i64 0]] (Dat (fun w S v=>InJ w S v k7) (Un (Un (fun _=>False) x1.1.2.1) y2.1.2.1) y2.1.1) (fun x=>.tuple #[.agg (jc x.1.2.2 k7),.int .i64 0]) (fun x=>[poolF x.1.1 x.1.2.1])∧∀ x6:Dat (fun w S v=>InJ w S v k7) (Un (Un (fun _=>False) x1.1.2.1) y2.1.2.1) y2.1.1,∀ g2:Nat,k6 = .int .i64 k5∧∃ x' : Dat (RA aW) (Un (fun _=>False) x1.1.2.1) x1.1.1,(x'.1.2.2.2≤9)∧(9 - x'.1.2.2.2 < 9 - y2.1.2.2.2)∧(([.pointer k3,.pointer k4,.int .i64 0,.int .i64 k5]:List Value)=[.pointer k3,.pointer k4,.int .i64 0,.int .i64 (x'.1.2.2.2:Int)]∧([some ⟨g1,0,k2,.own 27⟩,some ⟨g0,0,(jc x6.1.2.2 k7),.own 24⟩]:List (Option Blk))=[some ⟨g1,0,k2,.own 27⟩,some ⟨g0,0,#[.int .i64 ((aW x'.1.2.2.2).e),.int .i64 ((aW x'.1.2.2.2).n),.int .i64 ((aW x'.1.2.2.2).u),.int .i64 ((aW x'.1.2.2.2).g),.int .i64 ((aW x'.1.2.2.2).c),.slice x'.1.2.2.1.A ((aW x'.1.2.2.2).ws.length) x'.1.2.2.1.c],.own 24⟩]∧Turns w [poolF x6.1.1 x6.1.2.1,poolF y2.1.1 y2.1.2.1,poolF x1.1.1 x1.1.2.1] [poolF x'.1.1 x'.1.2.1,poolF x1.1.1 x1.1.2.1])∧true=true)∧((decide (k8 < 9))=false→GivesM Tryz.prog w k9 16 #[.agg k10,.agg k2] (Dat (RW (aC,aE,0)) (Un (Un (fun _=>False) x1.1.2.1) y2.1.2.1) y2.1.1) (fun x=>.tuple #[.agg (jc x.1.2.2.1 aC),.agg (dc x.1.2.2.2 aE),.int .i64 0]) (fun x=>[poolF x.1.1 x.1.2.1])∧∀ x7:Dat (RW (aC,aE,0)) (Un (Un (fun _=>False) x1.1.2.1) y2.1.2.1) y2.1.1,∀ g2:Nat,GivesM Tryz.prog w [poolF x7.1.1 x7.1.2.1,poolF y2.1.1 y2.1.2.1,poolF x1.1.1 x1.1.2.1] 26 #[.agg (dc x7.1.2.2.2 aE),.int .i64 3] (Dat (RO (aX,aG,aL,0)) (Un (Un (Un (fun _=>False) x1.1.2.1) y2.1.2.1) x7.1.2.1) x7.1.1) (fun x=>.tuple #[.agg (jc ⟨none,0⟩ aX),.agg (dc x.1.2.2.1 aG),.slice x.1.2.2.2.1 6 x.1.2.2.2.2,.int .i64 0]) (fun x=>[poolF x.1.1 x.1.2.1])∧∀ x8:Dat (RO (aX,aG,aL,0)) (Un (Un (Un (fun _=>False) x1.1.2.1) y2.1.2.1) x7.1.2.1) x7.1.1,∀ g3:Nat,∀ g4:Nat,GivesM Tryz.prog w [poolF x8.1.1 x8.1.2.1,poolF x7.1.1 x7.1.2.1,poolF y2.1.1 y2.1.2.1,poolF x1.1.1 x1.1.2.1] 21 #[.agg (dc x7.1.2.2.2 aE)] (Option Addr × Nat) (fun x=>.slice x.1 2 x.2) (fun x=>[ownF (rdInt .i64) 1 2 x.1 2 x.2 ([1,9])])∧∀ x9:Option Addr × Nat,let k11:List Fact:=[ownF (rdInt .i64) 1 2 x9.1 2 x9.2 ([1,9]),poolF x8.1.1 x8.1.2.1,poolF x7.1.1 x7.1.2.1,poolF y2.1.1 y2.1.2.1,poolF x1.1.1 x1.1.2.1];Yields0 Tryz.prog w k11 (Instr.indexAt 47 (.slice x9.1 2 x9.2) (.int .i64 1)) (.pointer (some ⟨blkA x9.1,offA x9.1+1 * 1,none⟩))∧Reads0 w k11 (blkA x9.1) (offA x9.1+1 * 1) #[.int .i64 (([1,9]).getD 1 0)]∧(.bool (decide ((([1,9]).getD 1 0)=9)):Value) = .bool true∧Gives Tryz.prog w k11 24 #[.int .i64 9] k0∧Yields0 Tryz.prog w k11 (do eqGuard BinOp.eql 9 (.tmp 105) (.const k0) k0 k0;Go.binOp BinOp.eql 9 k0 k0) (.bool true)∧Gives Tryz.prog w k11 13 #[.agg (jc ⟨none,0⟩ aX)] (.bool true)∧((.bool true:Value) = .bool true))) Tryz.func9 (by kernel_rfl)
 (⟨(g_wopen (u:=⟨none,0,[]⟩) (t:=aD) aO (fixed_low (fun k hk=>hk.elim)) aD_in (by decide) (by unfold inI;omega) ht he),fun x1=>fun g0=>fun g1=>⟨(fun _ _ _=>news_pool0),(by dsimp only;omega),⟨rfl,rfl,(turns_sub (.cons_cons _ (.cons_cons _ (List.nil_sublist _))))⟩,rfl,fun y2 I3 τ4=>⟨fun h5=>have h5:(y2.1.2.2.2:Int) < 9:=(by simpa using h5)
⟨wrap_is rfl (by omega) (by omega),⟨(g_wput (aP y2.1.2.2.2 (by omega)) (fixed_next (fixed_next (fixed_low (fun k hk=>hk.elim)) x1 (i:=1) rfl) y2 (i:=0) rfl) (fun w1 hw ha=>((dat_in keeps_a (fixed_next (fixed_low (fun k hk=>hk.elim)) x1 (i:=1) rfl) y2 (i:=0) rfl w1 hw ha))) (by unfold inI;omega) (by unfold inI;omega)),fun x6=>fun g2=>⟨wrap_is rfl (by omega) (by omega),⟨((turnAt (glue keeps_a y2 (keeps_j _) x6) (x6.1.2.2,y2.1.2.2.2+1) (glue keeps_a y2 (keeps_j _) x6).2.1.2):Dat (RA aW) (Un (fun _=>False) x1.1.2.1) x1.1.1),(by dsimp only;omega),(by dsimp only;omega),⟨rfl,rfl,(turns_glue2 keeps_a y2 (keeps_j _) x6)⟩,rfl⟩⟩⟩⟩,
 fun h5=>have h5:¬ (y2.1.2.2.2:Int) < 9:=(by simpa using h5)
⟨(g_wcommit (aCq aCm (by omega)) (fixed_next (fixed_next (fixed_low (fun k hk=>hk.elim)) x1 (i:=1) rfl) y2 (i:=0) rfl) (fun w1 hw ha=>((dat_in keeps_a (fixed_next (fixed_low (fun k hk=>hk.elim)) x1 (i:=1) rfl) y2 (i:=0) rfl w1 hw ha))) (fun w1 hw ha=>((dat_in (keeps_o _) (fixed_low (fun k hk=>hk.elim)) x1 (i:=1) rfl w1 hw ha).1).more (fun _ h=>.inl h)) (by decide) ht he),fun x7=>fun g2=>⟨(g_wopen_n aQ hL (fixed_next (fixed_next (fixed_next (fixed_low (fun k hk=>hk.elim)) x1 (i:=2) rfl) y2 (i:=1) rfl) x7 (i:=0) rfl) (fun w1 hw ha=>((dat_in (keeps_w _) (fixed_next (fixed_next (fixed_low (fun k hk=>hk.elim)) x1 (i:=2) rfl) y2 (i:=1) rfl) x7 (i:=0) rfl w1 hw ha).2)) aEs (by unfold inI;omega) ht he),fun x8=>fun g3=>fun g4=>⟨(g_wsegs (l:=[1,9]) aSg (fun w1 hw ha=>(dat_all (keeps_w _) (fixed_next (fixed_next (fixed_low (fun k hk=>hk.elim)) x1 (i:=3) rfl) y2 (i:=2) rfl) x7 (i:=1) rfl w1 hw ha).2) aEs ht he),fun x9=>⟨(own_index Tryz.underlying47 info_i64 (row_at (j:=0) rfl) (by decide)),(own_reads (keeps_int _) (by decide) int_cells (row_at (j:=0) rfl) (at_getD (by decide))),⟨rfl,⟨(aNm ht),⟨(by rw [← hnm];exact (str_eql _ _)),⟨(g_wright aR (fun w1 _ _=>aX_in)),rfl⟩⟩⟩⟩⟩⟩⟩⟩⟩⟩⟩)
theorem aQ_is:(openL (commitL (aW 9) aD).2.1 3).1=aX∧(openL (commitL (aW 9) aD).2.1 3).2.2.2=0∧(openL (commitL (aW 9) aD).2.1 3).2.2.1.length=6∧segs (commitL (aW 9) aD).2.1=[1,9]∧shortB (commitL (aW 9) aD).2.1.files=true:=by decide +kernel
theorem awake12 (w:World) (ht:TabW w) (he:ErrVar w):Calls Tryz.prog 9 #[] w fun e w'=>e = .returned (.bool true)∧Below w.heap.size w w':=by
 obtain ⟨h1,h2,h3,h4,h5⟩:=aQ_is
 exact awake_gen aW rfl aO aP _ _ _ (Prod.ext aC_is.1 (Prod.ext rfl aC_is.2)) (Prod.ext h1 (Prod.ext rfl (Prod.ext rfl h2))) h3 h4 h5 w ht he
end Go.Proofs.YtalhdalinpdanaaGreatDoor.wal
end
