/-
  WalF, WalGo, Awake12
-/
import Derived.Test.YtalhdalinpdanaaGreatDoorMwl47
import Derived.Test.YtalhdalinpdanaaGreatDoorMwl36
import Derived.Test.YtalhdalinpdanaaGreatDoorMwl45
set_option linter.unusedVariables false
set_option linter.unusedSimpArgs false
section
namespace Go.Proofs.YtalhdalinpdanaaGreatDoor.wal
set_option maxRecDepth 20000
open Go.RowKit Go.Proofs.YtalhdalinpdanaaGreatDoor Go.Proofs.YtalhdalinpdanaaGreatDoor.frame Go.Proofs.YtalhdalinpdanaaGreatDoor.disk
structure Tor (F:List FrameD) (d:DiskD):Prop where
 p:Plain d
 s:Sures d.files
 sg:∃ T,segs d=sgL F.length++T∧(T=[]∨∃ x,T=[x]∧(F=[]→x=segN 0)∧(∀ j,j < many F.length→segN j < x)∧∀ ep,scanV d x ep=[])
 h:∀ j,j+1 < many F.length→heldV d (segN j)=scan.put (chunk F j)
 l:F≠[]→∃ rest,heldV d (segN (many F.length - 1))=scan.put (chunk F (many F.length - 1))++rest
 v:F≠[]→∀ ep,scan.row (F.drop (8 * (many F.length - 1))) (segN (many F.length - 1)) ep=true→scanV d (segN (many F.length - 1)) ep=chunk F (many F.length - 1)
section
variable {F:List FrameD} {d t:DiskD} {j:Nat} {ep E:Int}
theorem tor_scan (hT:Tor F d) (hF:Fok F) (hj:j < many F.length) (hr:scan.row (F.drop (8 * j)) (segN j) ep=true):scanV d (segN j) ep=chunk F j:=by
 by_cases hl:j+1 < many F.length
 ·unfold scanV
  rw [hT.h j hl,put_small hF]
  have:=scan.all_puts (chunk F j) [] (segN j) ep (chunk_fine hF) (chunk_row hr).1
  rw [List.append_nil,scan.all_short (b:=[]) (by decide),List.append_nil] at this
  exact this
 ·obtain rfl:j=many F.length - 1:=by omega
  exact hT.v (fun e=>by rw [e] at hj;simp [many] at hj) ep hr
theorem read_tail {T:List Int} (h:T=[]∨∃ x,T=[x]∧(F=[]→x=segN 0)∧(∀ j,j < many F.length→segN j < x)∧∀ ep,scanV d x ep=[]) (r:RdS):readG d T r=r:=by
 rcases h with rfl | ⟨x,rfl,_,_,hx⟩
 ·rfl
 ·rw [readG]
  split
  ·rfl
  ·rw [hx,if_pos (by rfl)]
theorem tor_readG (hT:Tor F d) (hF:Fok F) {T:List Int} (hsT:segs d=sgL F.length++T) (hTT:T=[]∨∃ x,T=[x]∧(F=[]→x=segN 0)∧(∀ j,j < many F.length→segN j < x)∧∀ ep,scanV d x ep=[]) :
  ∀ (m j:Nat) (r:RdS),many F.length - j=m→j < many F.length→(r.g=0∨r.n=segN j)→scan.row (F.drop (8 * j)) (segN j) r.ep=true→readG d ((sgL F.length).drop j++T) r=endR F (r.all++F.drop (8 * j))
 | 0,j,r,hm,hj,_,_=>by omega
 |m + 1,j,r,hm,hj,hg,hrow=>by
  have hs:=tor_scan hT hF hj hrow
  have h8:=many_lt hj
  have hl:=chunk_len F j
  have hne:chunk F j≠[]:=fun e=>by rw [e] at hl;simp only [List.length_nil] at hl;omega
  have hlast:(chunk F j).getD ((chunk F j).length - 1) frz=F.getD (8 * j+((chunk F j).length - 1)) frz:=chunk_at F j _ (by omega)
  have hidx:8 * j+((chunk F j).length - 1) < F.length:=by omega
  have hrl:=frow_at F 1 1 (8 * j+((chunk F j).length - 1)) _ hF.row (List.getElem?_eq_getElem hidx)
  have hgd:F.getD (8 * j+((chunk F j).length - 1)) frz=F[8 * j+((chunk F j).length - 1)]:=by rw [List.getD_eq_getElem?_getD,List.getElem?_eq_getElem hidx];rfl
  rw [← hgd,← hlast] at hrl
  have hst:stepR d r (segN j)=⟨((chunk F j).getD ((chunk F j).length - 1) frz).e+1,((chunk F j).getD ((chunk F j).length - 1) frz).l+1,((chunk F j).getD ((chunk F j).length - 1) frz).l,segN j,((chunk F j).length:Int),((chunk F j).getD ((chunk F j).length - 1) frz).e,r.all++chunk F j⟩:=by
   unfold stepR;rw [hs]
  rw [sgL_drop hj,List.cons_append,readG,if_neg (fun h=>hg.elim h.1 (fun e=>h.2 e.symm)),hs,if_neg (by omega)]
  by_cases hj2:j+1 < many F.length
  ·have h9:=many_lt hj2
   have hr2:=(chunk_row hrow).2 (by omega)
   rw [last_getD hne] at hr2
   rw [if_neg (by rw [hT.h j hj2,scan.put_len];omega),hst,tor_readG hT hF hsT hTT m (j+1) _ (by omega) hj2 (.inr (by
    show ((chunk F j).getD ((chunk F j).length - 1) frz).l+1=segN (j+1)
    rw [hrl.1,hl];unfold segN;omega)) hr2]
   show endR F (r.all++chunk F j++F.drop (8 * (j+1)))=_
   rw [List.append_assoc,← chunk_app]
  ·have hjm:j=many F.length - 1:=by omega
   have hdr:(sgL F.length).drop (j+1)=[]:=List.drop_eq_nil_of_le (by rw [sgL_len];omega)
   have hlen:(chunk F j).length=F.length - 8 * j:=by rw [hl];unfold many at hj2;omega
   rw [hdr,List.nil_append,read_tail hTT,ite_self,hst]
   have e1:8 * j+((chunk F j).length - 1)=F.length - 1:=by omega
   rw [e1] at hlast
   have hca:chunk F j=F.drop (8 * j):=by
    unfold chunk;exact List.take_of_length_le (by rw [List.length_drop];unfold many at hj2;omega)
   unfold endR
   rw [← hjm,hrl.1,← hlen,← hca,hlast]
   congr 1
   ·omega
   ·omega
theorem tor_read (hT:Tor F d) (hF:Fok F):(F=[]∧readL d=rdz)∨(F≠[]∧readL d=endR F F):=by
 obtain ⟨T,h1,h2⟩:=hT.sg
 by_cases h0:F=[]
 ·left
  refine ⟨h0,?_⟩
  show readG d (segs d) rdz=_
  rw [h1,h0]
  show readG d ([]++T) rdz=_
  rw [List.nil_append,read_tail h2]
 ·right
  refine ⟨h0,?_⟩
  have hm:0 < many F.length:=by have:=List.length_pos_iff.2 h0;unfold many;omega
  show readG d (segs d) rdz=_
  have:=tor_readG hT hF h1 h2 _ 0 rdz rfl hm (.inl rfl) (fok_drop hF 0 (Nat.zero_le _))
  rw [List.drop_zero] at this
  rw [h1,this]
  rfl
theorem fin_plain {b:Int} (hp:Plain t):Plain ⟨fin t b,t.room, -1,false⟩:=by
 obtain ⟨_,m,ok,no,r⟩:=gone_files b hp.1 hp.2.1
 have h0:(goneL t b).2=0:=by
  by_cases h:(goneL t b).2=0
  ·exact h
  ·exact absurd hp.2.2 (no h).2
 obtain ⟨f2,d2,u2⟩:=ok h0
 have:=plain_of r
 rw [f2,m] at this
 exact this
theorem look_cut {fs:List FileD} {g k a:Int} (hr:Row fs) (hne:nameV a≠nameV g):heldF (cutTo g k fs) a=heldF fs a:=by
 unfold cutTo
 split
 ·unfold heldF cutF
  have hnm:=old_name (nameV g) fs
  have:disk.look (nameV a) (withF { oldOf (nameV g) fs with data:=(oldOf (nameV g) fs).data.take k.toNat,sure:=if k < (oldOf (nameV g) fs).sure then k else (oldOf (nameV g) fs).sure } fs)=disk.look (nameV a) fs:=by
   cases h:disk.look (nameV a) fs with
   |some f =>
    obtain ⟨h1,h2⟩:=look_some h
    rw [← h2]
    exact look_of (row_with _ hr) ((mem_with hr).2 (.inr ⟨h1,by rw [h2];show nameV a≠(oldOf (nameV g) fs).name;rw [hnm];exact hne⟩))
   |none =>
    refine look_no fun x hx e=>?_
    rcases (mem_with hr).1 hx with rfl | ⟨hx,_⟩
    ·have e2:(oldOf (nameV g) fs).name=nameV a:=e
     rw [hnm] at e2;exact hne e2.symm
    ·exact look_none h x hx e
  rw [this]
 ·rfl
theorem seg_name {i k:Nat} (hi:segN i≤1000000000) (hk:segN k≤1000000000) (h:i≠k):nameV (segN i)≠nameV (segN k):=by
 rw [nameV_in (by unfold segN at *;omega),nameV_in (by unfold segN at *;omega)]
 intro e
 have:=name_inj (by unfold segN at *;omega) (by unfold segN at *;omega) e
 unfold segN at this;omega
theorem tor_can (hT:Tor F d) (hF:Fok F):Can 0 F ⟨fin d 0,d.room, -1,false⟩:=by
 have hx:=fin_plain (b:=0) hT.p
 obtain ⟨T,g1,g2⟩:=hT.sg
 obtain ⟨X,hX⟩:∃ X:DiskD,X=⟨fin d 0,d.room, -1,false⟩:=⟨_,rfl⟩
 have hXf:X.files=fin d 0:=by rw [hX]
 rw [← hX] at hx ⊢
 rcases tor_read hT hF with ⟨h0,hrd⟩ | ⟨h0,hrd⟩
 ·have hn:isNew d 0:=.inl (by show (readL d).g=0;rw [hrd];rfl)
  have hf:X.files=keepTo 0 d.files:=by rw [hXf];unfold fin;rw [if_pos hn]
  subst h0
  refine ⟨hx.1,?_,fun j _ hj=>by have:=many_lt hj;simp at this⟩
  have:segs X=(segs d).filter fun x=>decide (x≤0):=segs_keep hT.p.1 hx.1 hf
  rw [this]
  show _=[]
  exact filt_nil fun x hx=>by have:=segs_rng d x hx;omega
 ·have hpos:=List.length_pos_iff.2 h0
  have hm:0 < many F.length:=by unfold many;omega
  have hg:(readL d).g=segN (many F.length - 1):=by rw [hrd];rfl
  have hc:(readL d).c=((F.length - 8 * (many F.length - 1):Nat):Int):=by rw [hrd];rfl
  have hn:¬ isNew d 0:=fun h=>by
   rcases h with h | h
   ·have h2:(readL d).g=0:=h
    rw [hg] at h2;unfold segN at h2;omega
   ·have h2:(readL d).u < 0:=h
    rw [hrd] at h2
    have h3:(F.length:Int) < 0:=h2
    omega
  have hf:X.files=cutG d:=by rw [hXf];unfold fin;rw [if_neg hn]
  have hin:∀ j,j < many F.length→segN j ∈ segs d:=fun j hj=>by
   rw [g1]
   refine List.mem_append_left _ ?_
   have:=sgL_mem (n:=F.length) (i:=0) (x:=segN j)
   rw [List.drop_zero] at this
   exact this.2 ⟨j,Nat.zero_le _,hj,rfl⟩
  have hrow:Row (keepTo (readL d).g d.files):=row_keep (right_files hT.p.1).2.2.1
  have hkeep:∀ j,j < many F.length→heldF (keepTo (readL d).g d.files) (segN j)=heldV d (segN j):=fun j hj=>by
   have:=held_keep (z:=⟨keepTo (readL d).g d.files,0,0,false⟩) (m:=(readL d).g) hT.p.1 rfl (hin j hj) (by rw [hg];unfold segN;omega)
   rw [held_f] at this
   exact this
  refine ⟨hx.1,rise_ext (segs_rise _) (sgL_rise _ _) fun y=>?_,fun j _ hj=>?_⟩
  ·rw [segs_mid2 (m:=1000000000) hT.p.1 hx.1 (by rw [hf];exact (keep_self fun f _=>num_le _).symm) y,g1,hg,sgL_mem]
   constructor
   ·rintro ⟨hy,hy2⟩
    rcases List.mem_append.1 hy with hy | hy
    ·have:=sgL_mem (n:=F.length) (i:=0) (x:=y)
     rw [List.drop_zero] at this
     exact this.1 hy
    ·exfalso
     rcases g2 with rfl | ⟨x,rfl,_,hx2,_⟩
     ·cases hy
     ·have:=hx2 (many F.length - 1) (by omega)
      rw [List.mem_singleton.1 hy] at hy2;omega
   ·rintro ⟨j,_,hj,rfl⟩
    have hb:=segs_rng d _ (hin j hj)
    refine ⟨?_,by unfold segN at *;omega⟩
    have:=hin j hj
    rwa [g1] at this
  ·have hbj:=segs_rng d _ (hin j hj)
   rw [held_f,hf]
   unfold cutG
   by_cases hl:j+1 < many F.length
   ·have hbl:=segs_rng d _ (hin (many F.length - 1) (by omega))
    rw [look_cut hrow (by rw [hg];exact seg_name hbj.2 hbl.2 (by omega)),hkeep j hj,hT.h j hl]
   ·obtain rfl:j=many F.length - 1:=by omega
    obtain ⟨rest,hrest⟩:=hT.l h0
    have hk:=hkeep _ hj
    rw [hrest] at hk
    have hcl:(readL d).c * 72=((scan.put (chunk F (many F.length - 1))).length:Int):=by
     rw [hc,scan.put_len,chunk_len]
     have:F.length - 8 * (many F.length - 1)≤8:=by unfold many;omega
     omega
    rw [← hg] at hk ⊢
    unfold cutTo
    split
    ·rename_i hlt
     rw [cut_held hrow (by omega) hlt,hk,hcl,Int.toNat_natCast,List.take_append_of_le_length (Nat.le_refl _),List.take_length]
    ·rename_i hlt
     rw [hk] at hlt ⊢
     have:rest=[]:=List.eq_nil_of_length_eq_zero (by rw [List.length_append] at hlt;omega)
     rw [this,List.append_nil]
theorem keep_one (hF:Fok F):keepD (0+1) F=F:=by
 unfold keepD
 refine List.filter_eq_self.2 fun f hf=>?_
 obtain ⟨k,hk⟩:=List.getElem?_of_mem hf
 have:=(frow_at F 1 1 k f hF.row hk).1
 rw [Bool.not_eq_true',decide_eq_false_iff_not];omega
theorem tor_open (hT:Tor F d) (hF:Fok F) (hE:∀ f ∈ F,f.e≤E) (h0:0≤E∧E < 1000000):∃ v x,openL d 0=(v,x,F,0)∧v.ws=[]∧Live F v (E+1) x:=by
 obtain ⟨T,g1,g2⟩:=hT.sg
 have hop:opensL d 0=0:=opens_zero hT.p.1 hT.p.2.1 ⟨Int.le_refl _,by decide⟩ (fun hl=>by
  rw [g1] at hl ⊢
  by_cases hm:0 < many F.length
  ·rw [List.getD_eq_getElem?_getD,List.getElem?_append_left (by rw [sgL_len];exact hm),sgL_get hm]
   show segN 0≤0+1
   decide
  ·have hs:sgL F.length=[]:=List.eq_nil_of_length_eq_zero (by rw [sgL_len];omega)
   rw [hs,List.nil_append] at hl ⊢
   rcases g2 with rfl | ⟨x,rfl,hx,_⟩
   ·simp at hl
   ·have hF0:F=[]:=List.eq_nil_of_length_eq_zero (by unfold many at hm;omega)
    rw [hx hF0]
    show segN 0≤0+1
    decide)
 have hC:=tor_can hT hF
 have hxp:=fin_plain (b:=0) hT.p
 have hsu:Sures (fin d 0):=by
  unfold fin
  split
  ·exact sures_keep hT.s
  ·exact sures_cutTo (row_keep (right_files hT.p.1).2.2.1) (c72 d) (sures_keep hT.s)
 rcases tor_read hT hF with ⟨hF0,hrd⟩ | ⟨hF0,hrd⟩
 ·have hn:isNew d 0:=.inl (by show (readL d).g=0;rw [hrd];rfl)
  have e:=open_plain hT.p hop (.inl hn)
  rw [hrd] at e
  have hw:newW d 0=⟨1,0+1,0,0,0,[]⟩:=by unfold newW;rw [if_pos hn]
  have hr:=new_right (b:=0) (t:=d) ⟨Int.le_refl _,by decide⟩ (.inl hn)
  subst hF0
  refine ⟨newW d 0,_,e,by rw [hw],⟨hr,by rw [hw];rfl,by rw [hw];rfl,by rw [hw];rfl,by rw [hw];exact hF,?_,?_,?_⟩,rfl,hsu,hC⟩
  ·rw [hw];exact Int.le_refl _
  ·rw [hw];show (1:Int)≤E+1;omega
  ·rw [hw];intro f hf;cases hf
 ·have hpos:=List.length_pos_iff.2 hF0
  have hg:(readL d).g=segN (many F.length - 1):=by rw [hrd];rfl
  have hn:¬ isNew d 0:=fun h=>by
   rcases h with h | h
   ·have h2:(readL d).g=0:=h
    rw [hg] at h2;unfold segN at h2;omega
   ·have h2:(readL d).u < 0:=h
    rw [hrd] at h2
    have h3:(F.length:Int) < 0:=h2
    omega
  have hidx:F.length - 1 < F.length:=by omega
  have hlm:F.getD (F.length - 1) frz ∈ F:=by rw [List.getD_eq_getElem?_getD,List.getElem?_eq_getElem hidx];exact List.getElem_mem hidx
  have hle:=hE _ hlm
  have hre:(readL d).e=(F.getD (F.length - 1) frz).e+1:=by rw [hrd];rfl
  have he:isNew d 0∨(readL d).e≤1000000:=.inr (by omega)
  have e:=open_plain hT.p hop he
  have hall:(readL d).all=F:=by rw [hrd];rfl
  rw [hall,keep_one hF] at e
  have hw:newW d 0=wlOf (endR F F):=by unfold newW;rw [if_neg hn,hrd]
  have hr:=new_right (b:=0) (t:=d) ⟨Int.le_refl _,by decide⟩ he
  refine ⟨newW d 0,_,e,by rw [hw];rfl,⟨hr,by rw [hw];rfl,?_,?_,?_,?_,?_,?_⟩,rfl,hsu,hC⟩
  ·rw [hw];unfold gS;rw [if_neg (by omega)];rfl
  ·rw [hw];unfold cS;rw [if_neg (by omega)];rfl
  ·rw [hw];show Fok (F++[]);rw [List.append_nil];exact hF
  ·rw [hw]
   show scan.last (F++[]) 1≤(F.getD (F.length - 1) frz).e+1
   rw [List.append_nil,last_getD hF0];omega
  ·rw [hw];show (F.getD (F.length - 1) frz).e+1≤E+1;omega
  ·rw [hw];intro f hf
   have hf2:f ∈ F++[]:=hf
   rw [List.append_nil] at hf2
   have:=hE f hf2;omega
theorem can_tor (hp:Plain d) (hs:Sures d.files) (hC:Can 0 F d) (hF:Fok F):Tor F d:=by
 refine ⟨hp,hs,⟨[],by rw [hC.sg,List.append_nil];rfl,.inl rfl⟩,fun j hj=>hC.h j (Nat.zero_le _) (by omega),fun h0=>⟨[],?_⟩,fun h0 ep hr=>?_⟩
 ·have hpos:=List.length_pos_iff.2 h0
  rw [List.append_nil];exact hC.h _ (Nat.zero_le _) (by unfold many;omega)
 ·have hpos:=List.length_pos_iff.2 h0
  exact scan_chunk hC hF (Nat.zero_le _) (by unfold many;omega) hr
theorem mapIdx_same {l:List FileD} {p:Nat→FileD→FileD} (h:∀ i,∀ f ∈ l,p i f=f):l.mapIdx p=l:=by
 refine List.ext_getElem? fun i=>?_
 rw [List.getElem?_mapIdx]
 cases e:l[i]? with
 |none=>rfl
 |some f=>rw [Option.map_some,h i f (List.mem_of_getElem? e)]
theorem back_app {fs:List FileD} {nm:ByteArray} {b:List Nat} (ks:List Int) (hr:Row fs) (hs:Sures fs):∃ l,l≤b.length∧backF ks (appF fs nm b)=addF fs nm (b.take l):=by
 have hold:((oldOf nm fs).data.length:Int)=(oldOf nm fs).sure:=by
  rcases old_cases nm fs with ⟨_,e⟩ | ⟨f,_,e,hm,_⟩
  ·rw [e];rfl
  ·rw [e];exact hs f hm
 have hnm:=old_name nm fs
 have hk:∀ i,∃ l,l≤b.length∧keptOf ks i { oldOf nm fs with data:=(oldOf nm fs).data++b }=fileN fs nm (b.take l):=fun i=>by
  obtain ⟨l,hl⟩:∃ l,disk.leftOf ks i { oldOf nm fs with data:=(oldOf nm fs).data++b }=l:=⟨_,rfl⟩
  have hle:l≤b.length:=by
   rw [← hl]
   unfold disk.leftOf
   simp only [List.length_append]
   omega
  refine ⟨l,hle,?_⟩
  unfold keptOf fileN
  rw [hl]
  have h1:(oldOf nm fs).sure.toNat=(oldOf nm fs).data.length:=by omega
  simp only [hnm,h1]
  rw [List.take_length_add_append]
  congr 1
  rw [List.length_append,List.length_take,Nat.min_eq_left hle]
  omega
 have he:appF fs nm b=disk.ahead nm fs++[{ oldOf nm fs with data:=(oldOf nm fs).data++b }]++disk.behind nm fs:=by
  unfold appF
  rw [with_eq _ hr]
  simp only [hnm]
 obtain ⟨l,hle,hl⟩:=hk (disk.ahead nm fs).length
 refine ⟨l,hle,?_⟩
 have hsa:∀ f ∈ disk.ahead nm fs,(f.data.length:Int)=f.sure:=fun f hf=>hs f (List.mem_filter.1 hf).1
 have hsb:∀ f ∈ disk.behind nm fs,(f.data.length:Int)=f.sure:=fun f hf=>hs f (List.mem_filter.1 hf).1
 rw [he]
 unfold backF addF
 rw [List.mapIdx_append,List.mapIdx_append,mapIdx_same (fun i f hf=>kept_again (hsa f hf)),mapIdx_same (l:=disk.behind nm fs) (fun i f hf=>kept_again (hsb f hf)),with_eq _ hr]
 simp only [List.mapIdx_cons,List.mapIdx_nil,Nat.zero_add]
 rw [hl]
 rfl
theorem put_take (B:List FrameD) (k:Nat):(scan.put B).take (72 * k)=scan.put (B.take k):=by
 have h:scan.put B=scan.put (B.take k)++scan.put (B.drop k):=by rw [← scan.put_append,List.take_append_drop]
 rcases Nat.le_total k B.length with hk | hk
 ·have hl:(scan.put (B.take k)).length=72 * k:=by rw [scan.put_len,List.length_take];omega
  rw [h,List.take_append_of_le_length (by omega),List.take_of_length_le (by omega)]
 ·rw [List.take_of_length_le (l:=B) hk,List.take_of_length_le (by rw [scan.put_len];omega)]
theorem can_old (hC:Can 0 F d) (hgb:1≤segN (F.length / 8)∧segN (F.length / 8)≤1000000000):(oldOf (nameOf (segN (F.length / 8))) d.files).data=scan.put (chunk F (F.length / 8)):=by
 rw [← held_look hgb]
 rcases Nat.lt_or_ge (F.length / 8) (many F.length) with h | h
 ·exact hC.h _ (Nat.zero_le _) h
 ·have e:chunk F (F.length / 8)=[]:=List.eq_nil_of_length_eq_zero (by rw [chunk_len];unfold many at h;omega)
  rw [e,held_look hgb]
  rcases old_cases (nameOf (segN (F.length / 8))) d.files with ⟨_,e2⟩ | ⟨f,e2,_,hm,hnm⟩
  ·rw [e2];rfl
  ·have h2:segN (F.length / 8) ∈ segs d:=(segs_iff hC.r).2 ⟨by omega,f,hm,by rw [hnm,numOf_name (by omega) hgb.2]⟩
   rw [hC.sg,sgL_mem] at h2
   obtain ⟨j,_,h3,h4⟩:=h2
   unfold segN at h4;unfold many at h h3;omega
theorem chunk_left {B:List FrameD} (h:8 * j+8≤F.length):chunk (F++B) j=chunk F j:=by
 unfold chunk
 rw [List.drop_append_of_le_length (by omega),List.take_append_of_le_length (by rw [List.length_drop];omega)]
theorem chunk_tail (h:F.length≤8 * j+8):chunk F j=F.drop (8 * j):=by
 unfold chunk;exact List.take_of_length_le (by rw [List.length_drop];omega)
theorem dead_tor {t b:DiskD} {B:List FrameD} {l:Nat} (hp:Plain t) (hs:Sures t.files) (hC:Can 0 F t) (hF:Fok (F++B)) (hB:B≠[]) (hl:B.length≤8 - F.length % 8) (hn:F.length+B.length≤1000000000) (hle:l≤72 * B.length)
  (hb:Plain b) (hsb:Sures b.files) (hf:b.files=addF t.files (nameOf (segN (F.length / 8))) ((scan.put B).take l)):Tor (F++B.take (l / 72)) b:=by
 have hbp:1≤B.length:=List.length_pos_iff.2 hB
 have hgb:1≤segN (F.length / 8)∧segN (F.length / 8)≤1000000000:=by unfold segN;omega
 have hFo:Fok F:=fok_left hF
 have hold:=can_old hC hgb
 have hst:∀ y,y ∈ segs t ↔ ∃ j,j < many F.length∧y=segN j:=fun y=>by
  rw [hC.sg,sgL_mem]
  exact ⟨fun ⟨j,_,h1,h2⟩=>⟨j,h1,h2⟩,fun ⟨j,h1,h2⟩=>⟨j,Nat.zero_le _,h1,h2⟩⟩
 have hseg:∀ y,y ∈ segs b ↔ y ∈ segs t∨y=segN (F.length / 8):=fun y=>by
  rw [segs_iff hb.1,hf]
  constructor
  ·rintro ⟨h0,f,hm,rfl⟩
   rcases (mem_add hp).1 hm with rfl | ⟨hm,_⟩
   ·exact .inr (by show numOf (nameOf (segN (F.length / 8)))=_;rw [numOf_name (by omega) hgb.2])
   ·exact .inl ((segs_iff hp.1).2 ⟨h0,f,hm,rfl⟩)
  ·have hthis:∃ f ∈ addF t.files (nameOf (segN (F.length / 8))) ((scan.put B).take l),numOf f.name=segN (F.length / 8):=⟨_,(mem_add hp).2 (.inl rfl),by show numOf (nameOf (segN (F.length / 8)))=_;rw [numOf_name (by omega) hgb.2]⟩
   rintro (h | rfl)
   ·obtain ⟨h0,f,hm,rfl⟩:=(segs_iff hp.1).1 h
    refine ⟨h0,?_⟩
    by_cases e:f.name=nameOf (segN (F.length / 8))
    ·rw [e,numOf_name (by omega) hgb.2];exact hthis
    ·exact ⟨f,(mem_add hp).2 (.inr ⟨hm,e⟩),rfl⟩
   ·exact ⟨by omega,hthis⟩
 have hjb:∀ j,j < many F.length→segN j≤1000000000:=fun j hj=>by have:=many_lt hj;unfold segN;omega
 have hother:∀ j,j≠F.length / 8→j < many F.length→heldV b (segN j)=scan.put (chunk F j):=fun j hj hjm=>by
  rw [← hC.h j (Nat.zero_le _) hjm,held_f,held_f,hf]
  unfold heldF
  have hne:nameV (segN j)≠nameOf (segN (F.length / 8)):=by
   have:=seg_name (hjb j hjm) hgb.2 hj
   rw [nameV_in (n:=segN (F.length / 8)) hgb] at this
   exact this
  rw [look_with_other hp hne]
 have hthis:heldV b (segN (F.length / 8))=scan.put (chunk F (F.length / 8))++(scan.put B).take l:=by
  rw [held_look hgb,hf,old_add hp]
  show (oldOf (nameOf (segN (F.length / 8))) t.files).data++_=_
  rw [hold]
 have hcl:=chunk_len F (F.length / 8)
 have hput:=scan.put_len B
 by_cases hck:0 < F.length % 8+l / 72
 ·have hlen:(F++B.take (l / 72)).length=F.length+l / 72:=by rw [List.length_append,List.length_take];omega
  have hmany:many (F++B.take (l / 72)).length=F.length / 8+1:=by rw [hlen];unfold many;omega
  have hmn:many F.length=F.length / 8∨many F.length=F.length / 8+1:=by unfold many;omega
  have hctl:chunk F (F.length / 8)=F.drop (8 * (F.length / 8)):=chunk_tail (by omega)
  have hc2:chunk (F++B.take (l / 72)) (F.length / 8)=chunk F (F.length / 8)++B.take (l / 72):=by
   rw [chunk_tail (by rw [hlen];omega),List.drop_append_of_le_length (by omega),hctl]
  have hsplit:(scan.put B).take l=scan.put (B.take (l / 72))++((scan.put B).take l).drop (72 * (l / 72)):=by
   conv=>lhs;rw [← List.take_append_drop (72 * (l / 72)) ((scan.put B).take l)]
   rw [List.take_take,Nat.min_eq_left (by omega),put_take]
  refine ⟨hb,hsb,⟨[],?_,.inl rfl⟩,fun j hj=>?_,fun _=>?_,fun _ ep hr=>?_⟩
  ·rw [List.append_nil]
   have:=sgL_rise (F++B.take (l / 72)).length 0
   rw [List.drop_zero] at this
   refine rise_ext (segs_rise b) this fun y=>?_
   have hm:=sgL_mem (n:=(F++B.take (l / 72)).length) (i:=0) (x:=y)
   rw [List.drop_zero] at hm
   rw [hm,hseg,hst,hmany]
   constructor
   ·rintro (⟨j,h1,rfl⟩ | rfl)
    ·exact ⟨j,Nat.zero_le _,by omega,rfl⟩
    ·exact ⟨_,Nat.zero_le _,Nat.lt_succ_self _,rfl⟩
   ·rintro ⟨j,_,h1,rfl⟩
    by_cases e:j=F.length / 8
    ·exact .inr (by rw [e])
    ·exact .inl ⟨j,by omega,rfl⟩
  ·rw [hmany] at hj
   rw [hother j (by omega) (by omega),chunk_left (by omega)]
  ·rw [hmany,Nat.add_sub_cancel,hthis,hc2,scan.put_append]
   exact ⟨((scan.put B).take l).drop (72 * (l / 72)),by rw [List.append_assoc,← hsplit]⟩
  ·rw [hmany,Nat.add_sub_cancel] at hr ⊢
   have hX1:=fok_drop hF (F.length / 8) (by rw [List.length_append];omega)
   rw [List.drop_append_of_le_length (by omega),← hctl] at hX1
   rw [List.drop_append_of_le_length (by omega),← hctl] at hr
   have hY:chunk F (F.length / 8)++B.take (l / 72)≠[]:=fun e=>by
    have:=congrArg List.length e
    rw [List.length_append,List.length_take,hcl] at this
    simp only [List.length_nil] at this;omega
   have hXY:chunk F (F.length / 8)++B=(chunk F (F.length / 8)++B.take (l / 72))++B.drop (l / 72):=by rw [List.append_assoc,List.take_append_drop]
   have hX:scan.row (chunk F (F.length / 8)++B) (segN (F.length / 8)) ep=true:=by
    rw [hXY,scan.row_append,Bool.and_eq_true] at hX1 ⊢
    refine ⟨hr,?_⟩
    rw [last_getD hY] at hX1 ⊢
    exact hX1.2
   have hfine:∀ f ∈ chunk F (F.length / 8)++B,f.fine:=fun f hf=>by
    rcases List.mem_append.1 hf with hf | hf
    ·exact chunk_fine hFo f hf
    ·exact hF.fine f (List.mem_append_right _ hf)
   have hpc:(scan.put (chunk F (F.length / 8))).length=72 * (F.length % 8):=by rw [scan.put_len,hcl];omega
   have hheld:heldV b (segN (F.length / 8))=(scan.put (chunk F (F.length / 8)++B)).take (72 * (F.length % 8)+l):=by
    rw [hthis,scan.put_append,← hpc,List.take_length_add_append]
   have hlen2:(heldV b (segN (F.length / 8))).length=72 * (F.length % 8)+l:=by rw [hthis,List.length_append,hpc,List.length_take];omega
   unfold scanV
   rw [List.take_of_length_le (by omega)]
   unfold scan.all
   rw [scan.scan_fuel _ 8 _ _ _ (by omega) (by omega),hheld,scan.scan_cut _ _ 8 _ _ hfine hX (by rw [List.length_append,hcl];omega) (by rw [List.length_append,hcl];omega),hc2]
   have e8:(72 * (F.length % 8)+l) / 72=(chunk F (F.length / 8)).length+l / 72:=by rw [hcl];omega
   rw [e8,List.take_length_add_append]
 ·have hl0:l / 72=0:=by omega
  have hc0:F.length % 8=0:=by omega
  have hmany:many F.length=F.length / 8:=by unfold many;omega
  rw [hl0,List.take_zero,List.append_nil]
  have hh:∀ j,j < many F.length→heldV b (segN j)=scan.put (chunk F j):=fun j hj=>hother j (by omega) hj
  have hce:chunk F (F.length / 8)=[]:=List.eq_nil_of_length_eq_zero (by rw [hcl];omega)
  refine ⟨hb,hsb,⟨[segN (F.length / 8)],?_,.inr ⟨_,rfl,fun e=>by rw [e];rfl,fun j hj=>by unfold segN;omega,fun ep=>?_⟩⟩,fun j hj=>hh j (by omega),fun h0=>⟨[],?_⟩,fun h0 ep hr=>?_⟩
  ·have hr0:=sgL_rise F.length 0
   rw [List.drop_zero] at hr0
   refine rise_ext (segs_rise b) (List.pairwise_append.2 ⟨hr0,List.pairwise_singleton _ _,fun x hx y hy=>?_⟩) fun y=>?_
   ·have hm:=sgL_mem (n:=F.length) (i:=0) (x:=x)
    rw [List.drop_zero] at hm
    obtain ⟨j,_,h1,rfl⟩:=hm.1 hx
    rw [List.mem_singleton.1 hy]
    unfold segN;omega
   ·have hm:=sgL_mem (n:=F.length) (i:=0) (x:=y)
    rw [List.drop_zero] at hm
    rw [List.mem_append,hm,List.mem_singleton,hseg,hst]
    exact or_congr ⟨fun ⟨j,h1,h2⟩=>⟨j,Nat.zero_le _,h1,h2⟩,fun ⟨j,_,h1,h2⟩=>⟨j,h1,h2⟩⟩ Iff.rfl
  ·unfold scanV
   rw [hthis,hce]
   exact scan.all_short (by
    rw [scan.put_nil,List.nil_append,List.length_take,List.length_take];omega) _ _
  ·have hpos:=List.length_pos_iff.2 h0
   rw [List.append_nil];exact hh _ (by omega)
  ·have hpos:=List.length_pos_iff.2 h0
   unfold scanV
   rw [hh _ (by omega),put_small hFo]
   have:=scan.all_puts (chunk F (many F.length - 1)) [] (segN (many F.length - 1)) ep (chunk_fine hFo) (chunk_row hr).1
   rw [List.append_nil,scan.all_short (b:=[]) (by decide),List.append_nil] at this
   exact this
theorem back_live {w:Wl} (h:Live F w E d) (ks:List Int):(backD d ks (-1)).2=0∧Tor F (backD d ks (-1)).1:=by
 obtain ⟨b1,b2,b3⟩:=plain_back h.c.r ks
 rw [back_again ks h.s] at b3
 exact ⟨b1,can_tor b2 (by rw [b3];exact h.s) (can_files h.c b2.1 b3) (fok_left h.j.ok)⟩
theorem back_dead {w:Wl} (h:Dead F w E d) (ks:List Int):(backD d ks (-1)).2=0∧∃ C,C <+: w.ws∧Tor (F++C) (backD d ks (-1)).1:=by
 obtain ⟨b1,b2,b3⟩:=plain_back h.r ks
 obtain ⟨t,B,p1,p2,p3,p4,p5,p6,p7⟩:=h.t
 have hrow:Row t.files:=(right_files p1.1).2.2.1
 rw [p7] at b3
 obtain ⟨l,l1,l2⟩:=back_app (nm:=nameOf (segN (F.length / 8))) (b:=scan.put B) ks hrow p2
 rw [l2] at b3
 rw [scan.put_len] at l1
 have hlen:=(jn_len h.j).2
 have hBw:=p6.length_le
 rw [List.length_append] at hlen
 have hsb:Sures (backD d ks (-1)).1.files:=by
  rw [b3]
  intro f hf
  rcases (mem_with hrow).1 hf with rfl | ⟨hf,_⟩
  ·rfl
  ·exact p2 f hf
 refine ⟨b1,B.take (l / 72),(List.take_prefix _ _).trans p6,?_⟩
 exact dead_tor p1 p2 p3 (fok_take h.j.ok p6) p4 p5 (by omega) l1 b2 hsb b3
theorem life {w:Wl} (h:Live F w E d∨Dead F w E d) (h0:0≤E∧E < 1000000) (ks:List Int) :
  (backD d ks (-1)).2=0∧∃ C v x,C <+: w.ws∧openL (backD d ks (-1)).1 0=(v,x,F++C,0)∧v.ws=[]∧Live (F++C) v (E+1) x:=by
 have key:∀ {C},Jn F w E→C <+: w.ws→Tor (F++C) (backD d ks (-1)).1→∃ v x,openL (backD d ks (-1)).1 0=(v,x,F++C,0)∧v.ws=[]∧Live (F++C) v (E+1) x:=fun {C} hj hc hT =>
  tor_open hT (fok_take hj.ok hc) (fun f hf=>by
   rcases List.mem_append.1 hf with hf | hf
   ·exact hj.fe f (List.mem_append_left _ hf)
   ·exact hj.fe f (List.mem_append_right _ (hc.subset hf))) h0
 rcases h with h | h
 ·obtain ⟨e,hT⟩:=back_live h ks
  have hT2:Tor (F++[]) (backD d ks (-1)).1:=by rw [List.append_nil];exact hT
  obtain ⟨v,x,g1,g2,g3⟩:=key h.j (List.nil_prefix) hT2
  exact ⟨e,[],v,x,List.nil_prefix,g1,g2,g3⟩
 ·obtain ⟨e,C,hc,hT⟩:=back_dead h ks
  obtain ⟨v,x,g1,g2,g3⟩:=key h.j hc hT
  exact ⟨e,C,v,x,hc,g1,g2,g3⟩
end
end Go.Proofs.YtalhdalinpdanaaGreatDoor.wal
end
section
namespace Go.Proofs.YtalhdalinpdanaaGreatDoor.wal
set_option maxRecDepth 20000
open Go.RowKit Go.Proofs.YtalhdalinpdanaaGreatDoor Go.Proofs.YtalhdalinpdanaaGreatDoor.frame Go.Proofs.YtalhdalinpdanaaGreatDoor.disk
abbrev RO (r:Wl × DiskD × List FrameD × Int):World→(Nat→Prop)→Dv × (Option Addr × Nat)→Prop:=fun w S b=>InD w S b.1 r.2.1∧Elems rdFrame 9 w S b.2.1 r.2.2.1∧r.2.2.1.length≤b.2.2∧b.2.2≤maxLen
theorem keeps_o (r:Wl × DiskD × List FrameD × Int):Keeps3 (RO r):=fun w w' S S' b h ha hs=>⟨h.1.keep ha.alike hs,h.2.1.keep keeps_frame ha.alike hs,h.2.2⟩
theorem nil_j {w:World} {S:Nat→Prop} {e n u g c:Int} (h:inI e∧inI n∧inI u∧inI g∧inI c):InJ w S ⟨none,0⟩ ⟨e,n,u,g,c,[]⟩ :=
 ⟨fun hk=>absurd hk (Nat.lt_irrefl 0),Nat.le_refl _,Nat.zero_le _,h.1,h.2.1,h.2.2.1,h.2.2.2.1,h.2.2.2.2⟩
section
variable {w0 W:World} {D:List Fact} {S:Nat→Prop} {u:Dv} {t:DiskD}
theorem g_wopen {b:Int} {r:Wl × DiskD × List FrameD × Int} (e:openL t b=r) (hF:Fixed w0 D S W) (hd:∀ w,Below w0.heap.size w0 w→All D w→InD w S u t) (hs:shortB t.files=true) (hb:inI b) (ht:TabW w0) (he:ErrVar w0) :
  GivesM Tryz.prog w0 D 26 #[.agg (dc u t),.int .i64 b] (Dat (RO r) S W) (fun x=>.tuple #[.agg (jc ⟨none,0⟩ r.1),.agg (dc x.1.2.2.1 r.2.1),.slice x.1.2.2.2.1 r.2.2.1.length x.1.2.2.2.2,.int .i64 r.2.2.2]) (fun x=>[poolF x.1.1 x.1.2.1]):=by
 subst e
 exact gives_dat (R:=RO (openL t b)) (r:=fun x=>.tuple #[.agg (jc ⟨none,0⟩ (openL t b).1),.agg (dc x.1 (openL t b).2.1),.slice x.2.1 (openL t b).2.2.1.length x.2.2,.int .i64 (openL t b).2.2.2]) hF (fun w hw ha=>v_open u t b S w (hd w hw ha) (hF w hw ha).2 hs hb (var_later ht hw) (ev_later he hw))
theorem g_wopen_n {b:Int} {r:Wl × DiskD × List FrameD × Int} {n:Nat} (e:openL t b=r) (hn:r.2.2.1.length=n) (hF:Fixed w0 D S W) (hd:∀ w,Below w0.heap.size w0 w→All D w→InD w S u t) (hs:shortB t.files=true) (hb:inI b) (ht:TabW w0) (he:ErrVar w0) :
  GivesM Tryz.prog w0 D 26 #[.agg (dc u t),.int .i64 b] (Dat (RO r) S W) (fun x=>.tuple #[.agg (jc ⟨none,0⟩ r.1),.agg (dc x.1.2.2.1 r.2.1),.slice x.1.2.2.2.1 n x.1.2.2.2.2,.int .i64 r.2.2.2]) (fun x=>[poolF x.1.1 x.1.2.1]):=by
 subst hn
 exact g_wopen e hF hd hs hb ht he
end
end Go.Proofs.YtalhdalinpdanaaGreatDoor.wal
end
section
namespace Go.Proofs.YtalhdalinpdanaaGreatDoor.wal
open Go.RowKit Go.Proofs.YtalhdalinpdanaaGreatDoor Go.Proofs.YtalhdalinpdanaaGreatDoor.frame Go.Proofs.YtalhdalinpdanaaGreatDoor.disk
set_option maxRecDepth 20000
def aD:DiskD:=⟨[],5000, -1,false⟩
def aW:Nat→Wl
 | 0=>⟨1,1,0,0,0,[]⟩
 |i+1=>(putW (aW i) 3 ((i+1:Nat):Int) 0 0 0 0 0).1
def aC:Wl:=⟨1,10,9,9,1,[]⟩
def aX:Wl:=⟨2,10,9,9,1,[]⟩
abbrev RA (aW:Nat→Wl):World→(Nat→Prop)→Jv × Nat→Prop:=fun w S b=>InJ w S b.1 (aW b.2)
theorem keeps_a {aW:Nat→Wl} : Keeps3 (RA aW):=fun w w' S S' b h ha hs=>h.keep ha.alike hs
theorem aJ0 {aW:Nat→Wl} (e:aW 0=⟨1,1,0,0,0,[]⟩) {w:World} {S:Nat→Prop} : InJ w S ⟨none,0⟩ (aW 0):=by rw [e];exact nil_j (by unfold inI;omega)
theorem aX_in {w:World} : InJ w (Lt w.heap.size) ⟨none,0⟩ aX:=nil_j (by unfold inI;omega)
theorem aO:openL aD 0=(aW 0,aD,[],0):=by kernel_rfl
theorem aP_err:∀ i < 9,(putW (aW i) 3 ((i+1:Nat):Int) 0 0 0 0 0).2=0:=by decide +kernel
theorem aP (i:Nat) (h:i < 9):putW (aW i) 3 ((i+1:Nat):Int) 0 0 0 0 0=(aW (i+1),0):=by
 exact Prod.ext rfl (aP_err i h)
theorem aC_is:(commitL (aW 9) aD).1=aC∧(commitL (aW 9) aD).2.2=0:=by decide +kernel
theorem aCq {aW:Nat→Wl} {i:Nat} {aE:DiskD} (e:commitL (aW 9) aD=(aC,aE,0)) (h:i=9):commitL (aW i) aD=(aC,aE,0):=by
 subst h;exact e
theorem aR:right aX=true:=by decide +kernel
theorem aN9:nameV 9=⟨#[108,111,103,46,48,48,48,48,48,48,48,48,48,57]⟩:=by decide +kernel
theorem aNm {w0:World} {D:List Fact} (ht:TabW w0):Gives Tryz.prog w0 D 24 #[.int .i64 9] (.string ⟨#[108,111,103,46,48,48,48,48,48,48,48,48,48,57]⟩):=by
 rw [← aN9];exact n_name (by unfold inI;omega) ht
theorem aD_in {w0:World} {D:List Fact} {S:Nat→Prop} : ∀ w,Below w0.heap.size w0 w→All D w→InD w S ⟨none,0,[]⟩ aD:=fun w _ _ =>
 ⟨fun hk=>absurd hk (Nat.lt_irrefl 0),rfl,Nat.le_refl _,Nat.zero_le _,by unfold inI aD;simp,by unfold inI aD;simp⟩
theorem awake_gen (aW:Nat→Wl) (a0:aW 0=⟨1,1,0,0,0,[]⟩) (aO:openL aD 0=(aW 0,aD,[],0)) (aP:∀ i:Nat,i < 9→putW (aW i) 3 ((i+1:Nat):Int) 0 0 0 0 0=(aW (i+1),0)) (aE aG:DiskD) (aL:List FrameD) (aCm:commitL (aW 9) aD=(aC,aE,0)) (aQ:openL aE 3=(aX,aG,aL,0)) (hL:aL.length=6) (aSg:segs aE=[1,9]) (aEs:shortB aE.files=true)  (w:World) (ht:TabW w) (he:ErrVar w):Calls Tryz.prog 9 #[] w fun e w'=>e = .returned (.bool true)∧Below w.heap.size w w' :=
 have hnm:decide ((⟨#[108,111,103,46,48,48,48,48,48,48,48,48,48,57]⟩:ByteArray)=⟨#[108,111,103,46,48,48,48,48,48,48,48,48,48,57]⟩)=true:=decide_eq_true rfl
 calls_by (fn:=Tryz.f9) (r:=.bool true) (t:=.cm (Dat (RO (aW 0,aD,[],0)) (fun _=>False) w) (fun x=>.tuple #[.agg #[.int .i64 ((aW 0).e),.int .i64 ((aW 0).n),.int .i64 ((aW 0).u),.int .i64 ((aW 0).g),.int .i64 ((aW 0).c),.slice ((⟨none,0⟩:Jv).A) ((aW 0).ws.length) ((⟨none,0⟩:Jv).c)],.agg (dc x.1.2.2.1 aD),.slice x.1.2.2.2.1 0 x.1.2.2.2.2,.int .i64 0]) (fun x=>[poolF x.1.1 x.1.2.1]) (fun x1=>.l (Dat (RA aW) (Un (fun _=>False) x1.1.2.1) x1.1.1) (fun x=>[(1,undef,some (0,0)),(2,undef,some (1,0)),(4,.int .i64 0,none),(5,.int .i64 (x.1.2.2.2:Int),none)]) (fun x=>[(0,#[.int .i64 ((aW x.1.2.2.2).e),.int .i64 ((aW x.1.2.2.2).n),.int .i64 ((aW x.1.2.2.2).u),.int .i64 ((aW x.1.2.2.2).g),.int .i64 ((aW x.1.2.2.2).c),.slice x.1.2.2.1.A ((aW x.1.2.2.2).ws.length) x.1.2.2.1.c])]) [0,1] [poolF x1.1.1 (fun _=>False)] (fun x=>[poolF x.1.1 x.1.2.1,poolF x1.1.1 x1.1.2.1]) (fun x=>x.1.2.2.2≤9) (fun x=>9 - x.1.2.2.2) ((given_ (w:=x1.1.1) (R:=RA aW) (b:=(⟨none,0⟩,0)) (aJ0 a0) keeps_a):Dat (RA aW) (Un (fun _=>False) x1.1.2.1) x1.1.1) (fun y2=>let k0:Value:=.int .i64 ((y2.1.2.2.2+1:Nat):Int); .s (.e k0 (.cm (Dat (fun w S v=>InJ w S v (aW (y2.1.2.2.2+1))) (Un (Un (fun _=>False) x1.1.2.1) y2.1.2.1) y2.1.1) (fun x=>.tuple #[.agg (jc x.1.2.2 (aW (y2.1.2.2.2+1))),.int .i64 0]) (fun x=>[poolF x.1.1 x.1.2.1]) (fun x6=>.k (.e k0 .z)))) (.cm (Dat (RW (aC,aE,0)) (Un (Un (fun _=>False) x1.1.2.1) y2.1.2.1) y2.1.1) (fun x=>.tuple #[.agg (jc x.1.2.2.1 aC),.agg (dc x.1.2.2.2 aE),.int .i64 0]) (fun x=>[poolF x.1.1 x.1.2.1]) (fun x7=>.cm (Dat (RO (aX,aG,aL,0)) (Un (Un (Un (fun _=>False) x1.1.2.1) y2.1.2.1) x7.1.2.1) x7.1.1) (fun x=>.tuple #[.agg (jc ⟨none,0⟩ aX),.agg (dc x.1.2.2.1 aG),.slice x.1.2.2.2.1 6 x.1.2.2.2.2,.int .i64 0]) (fun x=>[poolF x.1.1 x.1.2.1]) (fun x8=>.cm (Option Addr × Nat) (fun x=>.slice x.1 2 x.2) (fun x=>[ownF (rdInt .i64) 1 2 x.1 2 x.2 ([1,9])]) (fun x9=>.k (.k (.k (.k (.k (.k (.k (.k (.k (.k (.k (.k (.k (.k (.k (.k (.k (.k (.k (.k (.q (blkA x9.1) (offA x9.1+1 * 1) #[.int .i64 (([1,9]).getD 1 0)] (.e (.bool true) (.k (.c (.string (⟨#[108,111,103,46,48,48,48,48,48,48,48,48,48,57]⟩)) (.x (.bool true) (.k (.c (.bool true) .z))))))))))))))))))))))))))))))))) (X :=
 let k0:Value:=.string (⟨#[108,111,103,46,48,48,48,48,48,48,48,48,48,57]⟩);let k1:Array Value:=#[.int .i64 ((aW 0).e),.int .i64 ((aW 0).n),.int .i64 ((aW 0).u),.int .i64 ((aW 0).g),.int .i64 ((aW 0).c),.slice ((⟨none,0⟩:Jv).A) ((aW 0).ws.length) ((⟨none,0⟩:Jv).c)];GivesM Tryz.prog w [] 26 #[.agg #[.slice none 0 0,.int .i64 5000,.int .i64 (-1),.bool false],.int .i64 0] (Dat (RO (aW 0,aD,[],0)) (fun _=>False) w) (fun x=>.tuple #[.agg k1,.agg (dc x.1.2.2.1 aD),.slice x.1.2.2.2.1 0 x.1.2.2.2.2,.int .i64 0]) (fun x=>[poolF x.1.1 x.1.2.1])∧∀ x1:Dat (RO (aW 0,aD,[],0)) (fun _=>False) w,let k2:=dc x1.1.2.2.1 aD;  ∀ g0:Nat,let k3:Option Addr:=some ⟨g0,0,none⟩;  ∀ g1:Nat,let k4:Option Addr:=some ⟨g1,0,none⟩;Brings w [poolF x1.1.1 x1.1.2.1] [poolF x1.1.1 (fun _=>False)]∧(((given_ (w:=x1.1.1) (R:=RA aW) (b:=(⟨none,0⟩,0)) (aJ0 a0) keeps_a):Dat (RA aW) (Un (fun _=>False) x1.1.2.1) x1.1.1).1.2.2.2≤9)∧(([.pointer k3,.pointer k4,.int .i64 0,.int .i64 0]:List Value)=[.pointer k3,.pointer k4,.int .i64 0,.int .i64 (((given_ (w:=x1.1.1) (R:=RA aW) (b:=(⟨none,0⟩,0)) (aJ0 a0) keeps_a):Dat (RA aW) (Un (fun _=>False) x1.1.2.1) x1.1.1).1.2.2.2:Int)]∧([some ⟨g1,0,k2,.own 27⟩,some ⟨g0,0,k1,.own 24⟩]:List (Option Blk))=[some ⟨g1,0,k2,.own 27⟩,some ⟨g0,0,#[.int .i64 ((aW ((given_ (w:=x1.1.1) (R:=RA aW) (b:=(⟨none,0⟩,0)) (aJ0 a0) keeps_a):Dat (RA aW) (Un (fun _=>False) x1.1.2.1) x1.1.1).1.2.2.2).e),.int .i64 ((aW ((given_ (w:=x1.1.1) (R:=RA aW) (b:=(⟨none,0⟩,0)) (aJ0 a0) keeps_a):Dat (RA aW) (Un (fun _=>False) x1.1.2.1) x1.1.1).1.2.2.2).n),.int .i64 ((aW ((given_ (w:=x1.1.1) (R:=RA aW) (b:=(⟨none,0⟩,0)) (aJ0 a0) keeps_a):Dat (RA aW) (Un (fun _=>False) x1.1.2.1) x1.1.1).1.2.2.2).u),.int .i64 ((aW ((given_ (w:=x1.1.1) (R:=RA aW) (b:=(⟨none,0⟩,0)) (aJ0 a0) keeps_a):Dat (RA aW) (Un (fun _=>False) x1.1.2.1) x1.1.1).1.2.2.2).g),.int .i64 ((aW ((given_ (w:=x1.1.1) (R:=RA aW) (b:=(⟨none,0⟩,0)) (aJ0 a0) keeps_a):Dat (RA aW) (Un (fun _=>False) x1.1.2.1) x1.1.1).1.2.2.2).c),.slice (((given_ (w:=x1.1.1) (R:=RA aW) (b:=(⟨none,0⟩,0)) (aJ0 a0) keeps_a):Dat (RA aW) (Un (fun _=>False) x1.1.2.1) x1.1.1).1.2.2.1.A) ((aW ((given_ (w:=x1.1.1) (R:=RA aW) (b:=(⟨none,0⟩,0)) (aJ0 a0) keeps_a):Dat (RA aW) (Un (fun _=>False) x1.1.2.1) x1.1.1).1.2.2.2).ws.length) (((given_ (w:=x1.1.1) (R:=RA aW) (b:=(⟨none,0⟩,0)) (aJ0 a0) keeps_a):Dat (RA aW) (Un (fun _=>False) x1.1.2.1) x1.1.1).1.2.2.1.c)],.own 24⟩]∧Turns w [poolF x1.1.1 (fun _=>False),poolF x1.1.1 x1.1.2.1] [poolF ((given_ (w:=x1.1.1) (R:=RA aW) (b:=(⟨none,0⟩,0)) (aJ0 a0) keeps_a):Dat (RA aW) (Un (fun _=>False) x1.1.2.1) x1.1.1).1.1 ((given_ (w:=x1.1.1) (R:=RA aW) (b:=(⟨none,0⟩,0)) (aJ0 a0) keeps_a):Dat (RA aW) (Un (fun _=>False) x1.1.2.1) x1.1.1).1.2.1,poolF x1.1.1 x1.1.2.1])∧true=true∧∀ (y2:Dat (RA aW) (Un (fun _=>False) x1.1.2.1) x1.1.1),(y2.1.2.2.2≤9)→∀ τ4:Nat→Value,let k5:=((y2.1.2.2.2+1:Nat):Int);let k8:=(y2.1.2.2.2:Int);let k6:=(.int .i64 (IntKind.i64.wrap (k8+1)):Value);let k7:=aW (y2.1.2.2.2+1);let k9:List Fact:=[poolF y2.1.1 y2.1.2.1,poolF x1.1.1 x1.1.2.1];let k10:=jc y2.1.2.2.1 (aW y2.1.2.2.2);((decide (k8 < 9))=true→k6 = .int .i64 k5∧GivesM Tryz.prog w k9 11 #[.agg k10,.int .i64 3,.agg #[.int .i64 k5,.int .i64 0,.int .i64 0,.int .i64 0,.int .i64 0,.int .i64 0]] (Dat (fun w S v=>InJ w S v k7) (Un (Un (fun _=>False) x1.1.2.1) y2.1.2.1) y2.1.1) (fun x=>.tuple #[.agg (jc x.1.2.2 k7),.int .i64 0]) (fun x=>[poolF x.1.1 x.1.2.1])∧∀ x6:Dat (fun w S v=>InJ w S v k7) (Un (Un (fun _=>False) x1.1.2.1) y2.1.2.1) y2.1.1,∀ g2:Nat,k6 = .int .i64 k5∧∃ x' : Dat (RA aW) (Un (fun _=>False) x1.1.2.1) x1.1.1,(x'.1.2.2.2≤9)∧(9 - x'.1.2.2.2 < 9 - y2.1.2.2.2)∧(([.pointer k3,.pointer k4,.int .i64 0,.int .i64 k5]:List Value)=[.pointer k3,.pointer k4,.int .i64 0,.int .i64 (x'.1.2.2.2:Int)]∧([some ⟨g1,0,k2,.own 27⟩,some ⟨g0,0,(jc x6.1.2.2 k7),.own 24⟩]:List (Option Blk))=[some ⟨g1,0,k2,.own 27⟩,some ⟨g0,0,#[.int .i64 ((aW x'.1.2.2.2).e),.int .i64 ((aW x'.1.2.2.2).n),.int .i64 ((aW x'.1.2.2.2).u),.int .i64 ((aW x'.1.2.2.2).g),.int .i64 ((aW x'.1.2.2.2).c),.slice x'.1.2.2.1.A ((aW x'.1.2.2.2).ws.length) x'.1.2.2.1.c],.own 24⟩]∧Turns w [poolF x6.1.1 x6.1.2.1,poolF y2.1.1 y2.1.2.1,poolF x1.1.1 x1.1.2.1] [poolF x'.1.1 x'.1.2.1,poolF x1.1.1 x1.1.2.1])∧true=true)∧((decide (k8 < 9))=false→GivesM Tryz.prog w k9 16 #[.agg k10,.agg k2] (Dat (RW (aC,aE,0)) (Un (Un (fun _=>False) x1.1.2.1) y2.1.2.1) y2.1.1) (fun x=>.tuple #[.agg (jc x.1.2.2.1 aC),.agg (dc x.1.2.2.2 aE),.int .i64 0]) (fun x=>[poolF x.1.1 x.1.2.1])∧∀ x7:Dat (RW (aC,aE,0)) (Un (Un (fun _=>False) x1.1.2.1) y2.1.2.1) y2.1.1,∀ g2:Nat,GivesM Tryz.prog w [poolF x7.1.1 x7.1.2.1,poolF y2.1.1 y2.1.2.1,poolF x1.1.1 x1.1.2.1] 26 #[.agg (dc x7.1.2.2.2 aE),.int .i64 3] (Dat (RO (aX,aG,aL,0)) (Un (Un (Un (fun _=>False) x1.1.2.1) y2.1.2.1) x7.1.2.1) x7.1.1) (fun x=>.tuple #[.agg (jc ⟨none,0⟩ aX),.agg (dc x.1.2.2.1 aG),.slice x.1.2.2.2.1 6 x.1.2.2.2.2,.int .i64 0]) (fun x=>[poolF x.1.1 x.1.2.1])∧∀ x8:Dat (RO (aX,aG,aL,0)) (Un (Un (Un (fun _=>False) x1.1.2.1) y2.1.2.1) x7.1.2.1) x7.1.1,∀ g3:Nat,∀ g4:Nat,GivesM Tryz.prog w [poolF x8.1.1 x8.1.2.1,poolF x7.1.1 x7.1.2.1,poolF y2.1.1 y2.1.2.1,poolF x1.1.1 x1.1.2.1] 21 #[.agg (dc x7.1.2.2.2 aE)] (Option Addr × Nat) (fun x=>.slice x.1 2 x.2) (fun x=>[ownF (rdInt .i64) 1 2 x.1 2 x.2 ([1,9])])∧∀ x9:Option Addr × Nat,let k11:List Fact:=[ownF (rdInt .i64) 1 2 x9.1 2 x9.2 ([1,9]),poolF x8.1.1 x8.1.2.1,poolF x7.1.1 x7.1.2.1,poolF y2.1.1 y2.1.2.1,poolF x1.1.1 x1.1.2.1];Yields0 Tryz.prog w k11 (Instr.indexAt 47 (.slice x9.1 2 x9.2) (.int .i64 1)) (.pointer (some ⟨blkA x9.1,offA x9.1+1 * 1,none⟩))∧Reads0 w k11 (blkA x9.1) (offA x9.1+1 * 1) #[.int .i64 (([1,9]).getD 1 0)]∧(.bool (decide ((([1,9]).getD 1 0)=9)):Value) = .bool true∧Gives Tryz.prog w k11 24 #[.int .i64 9] k0∧Yields0 Tryz.prog w k11 (do eqGuard BinOp.eql 9 (.tmp 105) (.const k0) k0 k0;Go.binOp BinOp.eql 9 k0 k0) (.bool true)∧Gives Tryz.prog w k11 13 #[.agg (jc ⟨none,0⟩ aX)] (.bool true)∧((.bool true:Value) = .bool true))) Tryz.func9 (by kernel_rfl)
 (⟨(g_wopen (u:=⟨none,0,[]⟩) (t:=aD) aO (fixed_low (fun k hk=>hk.elim)) aD_in (by decide) (by unfold inI;omega) ht he),fun x1=>fun g0=>fun g1=>⟨(fun _ _ _=>news_pool0),(by dsimp only;omega),⟨rfl,rfl,(turns_sub (.cons_cons _ (.cons_cons _ (List.nil_sublist _))))⟩,rfl,fun y2 I3 τ4=>⟨fun h5=>have h5:(y2.1.2.2.2:Int) < 9:=(by simpa using h5)
⟨wrap_is rfl (by omega) (by omega),⟨(g_wput (aP y2.1.2.2.2 (by omega)) (fixed_next (fixed_next (fixed_low (fun k hk=>hk.elim)) x1 (i:=1) rfl) y2 (i:=0) rfl) (fun w1 hw ha=>((dat_in keeps_a (fixed_next (fixed_low (fun k hk=>hk.elim)) x1 (i:=1) rfl) y2 (i:=0) rfl w1 hw ha))) (by unfold inI;omega) (by unfold inI;omega)),fun x6=>fun g2=>⟨wrap_is rfl (by omega) (by omega),⟨((turnAt (glue keeps_a y2 (keeps_j _) x6) (x6.1.2.2,y2.1.2.2.2+1) (glue keeps_a y2 (keeps_j _) x6).2.1.2):Dat (RA aW) (Un (fun _=>False) x1.1.2.1) x1.1.1),(by dsimp only;omega),(by dsimp only;omega),⟨rfl,rfl,(turns_glue2 keeps_a y2 (keeps_j _) x6)⟩,rfl⟩⟩⟩⟩,
 fun h5=>have h5:¬ (y2.1.2.2.2:Int) < 9:=(by simpa using h5)
⟨(g_wcommit (aCq aCm (by omega)) (fixed_next (fixed_next (fixed_low (fun k hk=>hk.elim)) x1 (i:=1) rfl) y2 (i:=0) rfl) (fun w1 hw ha=>((dat_in keeps_a (fixed_next (fixed_low (fun k hk=>hk.elim)) x1 (i:=1) rfl) y2 (i:=0) rfl w1 hw ha))) (fun w1 hw ha=>((dat_in (keeps_o _) (fixed_low (fun k hk=>hk.elim)) x1 (i:=1) rfl w1 hw ha).1).more (fun _ h=>.inl h)) (by decide) ht he),fun x7=>fun g2=>⟨(g_wopen_n aQ hL (fixed_next (fixed_next (fixed_next (fixed_low (fun k hk=>hk.elim)) x1 (i:=2) rfl) y2 (i:=1) rfl) x7 (i:=0) rfl) (fun w1 hw ha=>((dat_in (keeps_w _) (fixed_next (fixed_next (fixed_low (fun k hk=>hk.elim)) x1 (i:=2) rfl) y2 (i:=1) rfl) x7 (i:=0) rfl w1 hw ha).2)) aEs (by unfold inI;omega) ht he),fun x8=>fun g3=>fun g4=>⟨(g_wsegs (l:=[1,9]) aSg (fun w1 hw ha=>(dat_all (keeps_w _) (fixed_next (fixed_next (fixed_low (fun k hk=>hk.elim)) x1 (i:=3) rfl) y2 (i:=2) rfl) x7 (i:=1) rfl w1 hw ha).2) aEs ht he),fun x9=>⟨(own_index Tryz.underlying47 info_i64 (row_at (j:=0) rfl) (by decide)),(own_reads (keeps_int _) (by decide) int_cells (row_at (j:=0) rfl) (at_getD (by decide))),⟨rfl,⟨(aNm ht),⟨(by rw [← hnm];exact (str_eql _ _)),⟨(g_wright aR (fun w1 _ _=>aX_in)),rfl⟩⟩⟩⟩⟩⟩⟩⟩⟩⟩⟩)
theorem aQ_is:(openL (commitL (aW 9) aD).2.1 3).1=aX∧(openL (commitL (aW 9) aD).2.1 3).2.2.2=0∧(openL (commitL (aW 9) aD).2.1 3).2.2.1.length=6∧segs (commitL (aW 9) aD).2.1=[1,9]∧shortB (commitL (aW 9) aD).2.1.files=true:=by decide +kernel
theorem awake12 (w:World) (ht:TabW w) (he:ErrVar w):Calls Tryz.prog 9 #[] w fun e w'=>e = .returned (.bool true)∧Below w.heap.size w w':=by
 obtain ⟨h1,h2,h3,h4,h5⟩:=aQ_is
 exact awake_gen aW rfl aO aP _ _ _ (Prod.ext aC_is.1 (Prod.ext rfl aC_is.2)) (Prod.ext h1 (Prod.ext rfl (Prod.ext rfl h2))) h3 h4 h5 w ht he
end Go.Proofs.YtalhdalinpdanaaGreatDoor.wal
end
