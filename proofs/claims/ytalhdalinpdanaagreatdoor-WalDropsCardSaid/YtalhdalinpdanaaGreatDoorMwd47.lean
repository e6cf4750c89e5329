/-
  WalA2, WalA3, WalA4, WalA5, WalC, WalD
-/
import Derived.Test.YtalhdalinpdanaaGreatDoorMwd46
import Derived.Test.YtalhdalinpdanaaGreatDoorMwd18
set_option linter.unusedVariables false
set_option linter.unusedSimpArgs false
section
namespace Go.Proofs.YtalhdalinpdanaaGreatDoor.wal
set_option maxRecDepth 20000
open Go.RowKit Go.Proofs.YtalhdalinpdanaaGreatDoor Go.Proofs.YtalhdalinpdanaaGreatDoor.frame Go.Proofs.YtalhdalinpdanaaGreatDoor.disk
theorem filt_nil {m:Int} {l:List Int} (h:∀ x ∈ l,m < x):l.filter (fun x=>decide (x≤m))=[]:=List.filter_eq_nil_iff.2 fun x hx=>by rw [decide_eq_true_eq];have:=h x hx;omega
end Go.Proofs.YtalhdalinpdanaaGreatDoor.wal
end
section
namespace Go.Proofs.YtalhdalinpdanaaGreatDoor.wal
set_option maxRecDepth 20000
open Go.RowKit Go.Proofs.YtalhdalinpdanaaGreatDoor Go.Proofs.YtalhdalinpdanaaGreatDoor.frame Go.Proofs.YtalhdalinpdanaaGreatDoor.disk
theorem held_zero {fs:List FileD} (h:∀ f ∈ fs,fileOk f=true):heldF fs 0=[]:=by
 unfold heldF
 rcases old_cases (nameV 0) fs with ⟨h1,_⟩ | ⟨f,h1,h2,h3,h4⟩
 ·rw [h1]
 ·have hok:=h f h3
  unfold fileOk at hok
  simp only [Bool.and_eq_true] at hok
  have:=hok.1.1.1
  rw [h4] at this
  exact absurd this (by decide)
theorem cut_zero0 {fs:List FileD} {c:Int} (hc:0≤c) (h:∀ f ∈ fs,fileOk f=true):cutTo 0 c fs=fs:=by
 unfold cutTo
 rw [held_zero h,if_neg (by simp only [List.length_nil];omega)]
theorem ok_keep {m:Int} {fs:List FileD} (h:∀ f ∈ fs,fileOk f=true):∀ f ∈ keepTo m fs,fileOk f=true:=fun f hf=>h f (mem_keep.1 hf).1
theorem keep_cut {fs:List FileD} {g k m:Int} (hr:Row fs) (hm:0≤m∧m < g) (hg:g≤1000000000):keepTo m (cutTo g k fs)=keepTo m fs:=by
 unfold cutTo
 split
 ·unfold cutF
  have hnm:=old_name (nameV g) fs
  have hng:numOf (nameV g)=g:=by rw [nameV_in (by omega),numOf_name (by omega) hg]
  refine Row.ext (row_keep (row_with _ hr)) (row_keep hr) fun f=>?_
  rw [mem_keep,mem_keep,mem_with hr]
  constructor
  ·rintro ⟨rfl | ⟨h1,h2⟩,h3⟩
   ·have h4:numOf (oldOf (nameV g) fs).name≤m:=h3
    rw [hnm,hng] at h4;omega
   ·exact ⟨h1,h3⟩
  ·rintro ⟨h1,h3⟩
   refine ⟨.inr ⟨h1,fun e=>?_⟩,h3⟩
   have h4:f.name=(oldOf (nameV g) fs).name:=e
   rw [h4,hnm,hng] at h3;omega
 ·rfl
theorem keep0 {fs:List FileD} {g c:Int} (hr:Row fs) (hok:∀ f ∈ fs,fileOk f=true) (hg:0≤g∧g≤1000000000) (hc:0≤c):keepTo 0 (cutTo g c (keepTo g fs))=keepTo 0 fs:=by
 rcases Int.lt_or_le 0 g with h | h
 ·rw [keep_cut (row_keep hr) ⟨Int.le_refl _,h⟩ hg.2,keep_keep,show min 0 g=0 by omega]
 ·obtain rfl:g=0:=by omega
  rw [cut_zero0 hc (ok_keep hok),keep_keep];rfl
def fin (t:DiskD) (b:Int):List FileD:=if isNew t b then keepTo 0 t.files else cutTo (readL t).g ((readL t).c * 72) (keepTo (readL t).g t.files)
structure Gon (b:Int) (t z:DiskD) (e:Int):Prop where
 f:(∃ m,(readL t).g≤m∧z.files=keepTo m t.files)∨(∃ m,0≤m∧(m=1000000000∨isNew t b)∧z.files=keepTo m (cutTo (readL t).g ((readL t).c * 72) (keepTo (readL t).g t.files)))
 m:z.room=t.room
 ok:e=0→z.files=fin t b∧z.down=false∧(t.fuse = -1→z.fuse = -1)
 no:e≠0→e=9∧t.fuse ≠ -1
 r:rightB z=true
theorem gone_files {t:DiskD} (b:Int) (hr:rightB t=true) (hd:t.down=false):Gon b t (goneL t b).1 (goneL t b).2:=by
 have hrg:=readL_rng t
 have hM:=mend_files (s:=wlOf (readL t)) hrg.g0 hrg.c0.1 hr hd
 have hr2:rightB (mendL (wlOf (readL t)) t).1=true:=mend_right hr
 unfold goneL
 obtain ⟨f,m,ok,no⟩:=hM
 by_cases h:isNew t b∧(mendL (wlOf (readL t)) t).2=0
 ·rw [if_pos h]
  obtain ⟨f2,d2,u2⟩:=ok h.2
  obtain ⟨⟨m3,g1,g2⟩,g3,g4,g5⟩:=removed_files (a:=0) ⟨Int.le_refl _,by decide⟩ hr2 d2
  refine ⟨.inr ⟨m3,g1,.inr h.1,by rw [g2,f2];rfl⟩,g3.trans m,fun he=>?_,fun he=>⟨(g5 he).1,fun hf=>(g5 he).2 (u2 hf)⟩,rem_right hr2⟩
  obtain ⟨k1,k2,k3⟩:=g4 he
  refine ⟨?_,k2,fun hf=>k3 (u2 hf)⟩
  rw [k1,f2]
  unfold fin
  rw [if_pos h.1]
  exact keep0 (right_files hr).2.2.1 (right_files hr).2.1 hrg.g0 (by show 0≤(readL t).c * 72;have:=hrg.c0;omega)
 ·rw [if_neg h]
  refine ⟨?_,m,fun he=>?_,no,hr2⟩
  ·rcases f with f | f
   ·exact .inl f
   ·exact .inr ⟨1000000000,by decide,.inl rfl,f.trans (keep_self fun f _=>num_le _).symm⟩
  ·obtain ⟨k1,k2,k3⟩:=ok he
   refine ⟨?_,k2,k3⟩
   rw [k1]
   unfold fin
   rw [if_neg (fun hn=>h ⟨hn,he⟩)]
   rfl
section
variable {t z:DiskD} {m:Int}
end
end Go.Proofs.YtalhdalinpdanaaGreatDoor.wal
end
section
namespace Go.Proofs.YtalhdalinpdanaaGreatDoor.wal
set_option maxRecDepth 20000
open Go.RowKit Go.Proofs.YtalhdalinpdanaaGreatDoor Go.Proofs.YtalhdalinpdanaaGreatDoor.frame Go.Proofs.YtalhdalinpdanaaGreatDoor.disk
def newW (t:DiskD) (b:Int):Wl:=if isNew t b then ⟨1,b+1,b,0,0,[]⟩ else wlOf (readL t)
theorem open_plain {t:DiskD} {b:Int} (hp:Plain t) (ho:opensL t b=0) (he:isNew t b∨(readL t).e≤1000000):openL t b=(newW t b,⟨fin t b,t.room, -1,false⟩,keepD (b+1) (readL t).all,0):=by
 obtain ⟨_,m,ok,no,r⟩:=gone_files b hp.1 hp.2.1
 have h0:(goneL t b).2=0:=by
  by_cases h:(goneL t b).2=0
  ·exact h
  ·exact absurd hp.2.2 (no h).2
 obtain ⟨f2,d2,u2⟩:=ok h0
 have e1:(goneL t b).1=⟨fin t b,t.room, -1,false⟩:=by
  have:=u2 hp.2.2
  rcases hg:(goneL t b).1 with ⟨a1,a2,a3,a4⟩
  rw [hg] at m f2 d2 this
  simp only at m f2 d2 this
  rw [m,f2,d2,this]
 unfold openL newW
 rw [if_neg (by rw [ho];simp),if_neg (fun h=>he.elim h.1 (fun h2=>by have h3:1000000 < (readL t).e:=h.2;omega)),if_neg (by rw [h0];simp),e1]
section
variable {t z:DiskD} {b:Int}
end
end Go.Proofs.YtalhdalinpdanaaGreatDoor.wal
end
section
namespace Go.Proofs.YtalhdalinpdanaaGreatDoor.wal
set_option maxRecDepth 20000
open Go.RowKit Go.Proofs.YtalhdalinpdanaaGreatDoor Go.Proofs.YtalhdalinpdanaaGreatDoor.frame Go.Proofs.YtalhdalinpdanaaGreatDoor.disk
def Sures (fs:List FileD):Prop := ∀ f ∈ fs,(f.data.length:Int)=f.sure
section
variable {t z:DiskD} {b m:Int}
theorem opens_zero (hr:rightB t=true) (hd:t.down=false) (hb:0≤b∧b < 1000000000) (hs:0 < (segs t).length→(segs t).getD 0 0≤b+1):opensL t b=0:=by
 unfold opensL
 rw [if_neg (by rw [hr];simp;omega),if_neg (by rw [hd];decide),if_neg]
 intro h
 rw [Bool.and_eq_true,decide_eq_true_eq,decide_eq_true_eq] at h
 have:=hs (by omega);omega
theorem opens_head (h:opensL t b=0) (hl:0 < (segs t).length):(segs t).getD 0 0≤b+1:=by
 refine Int.not_lt.1 fun hlt=>?_
 unfold opensL at h
 split at h
 ·cases h
 ·split at h
  ·cases h
  ·split at h
   ·cases h
   ·rename_i h3
    apply h3
    rw [Bool.and_eq_true,decide_eq_true_eq,decide_eq_true_eq]
    exact ⟨by omega,hlt⟩
theorem head_filter {l:List Int} (hp:l.Pairwise (· < ·)) (h:0 < (l.filter fun x=>decide (x≤m)).length):0 < l.length∧(l.filter fun x=>decide (x≤m)).getD 0 0=l.getD 0 0:=by
 cases l with
 |nil=>simp at h
 |cons a l =>
  obtain ⟨p1,p2⟩:=List.pairwise_cons.1 hp
  by_cases ha:a≤m
  ·rw [List.filter_cons_of_pos (by simpa using ha)];exact ⟨by simp,rfl⟩
  ·have hall:∀ x ∈ a :: l,m < x:=fun x hx=>by
    rcases List.mem_cons.1 hx with rfl | hx
    ·omega
    ·have:=p1 x hx;omega
   rw [filt_nil hall] at h
   simp at h
theorem head_ok (hz:∀ x,x ∈ segs z ↔ x ∈ segs t∧x≤m) (h:opensL t b=0) (hl:0 < (segs z).length):(segs z).getD 0 0≤b+1:=by
 have e:segs z=(segs t).filter fun x=>decide (x≤m):=rise_ext (segs_rise z) ((segs_rise t).filter _) fun x=>by rw [hz,List.mem_filter,decide_eq_true_eq]
 rw [e] at hl ⊢
 obtain ⟨h1,h2⟩:=head_filter (segs_rise t) hl
 rw [h2];exact opens_head h h1
end
end Go.Proofs.YtalhdalinpdanaaGreatDoor.wal
end
section
namespace Go.Proofs.YtalhdalinpdanaaGreatDoor.wal
set_option maxRecDepth 20000
open Go.RowKit Go.Proofs.YtalhdalinpdanaaGreatDoor Go.Proofs.YtalhdalinpdanaaGreatDoor.frame Go.Proofs.YtalhdalinpdanaaGreatDoor.disk
def many (n:Nat):Nat:=(n+7) / 8
def segN (j:Nat):Int:=((8 * j+1:Nat):Int)
def sgL (n:Nat):List Int:=(List.range (many n)).map segN
def chunk (F:List FrameD) (j:Nat):List FrameD:=(F.drop (8 * j)).take 8
theorem sgL_len (n:Nat):(sgL n).length=many n:=by simp [sgL]
theorem sgL_get {n j:Nat} (h:j < many n):(sgL n)[j]?=some (segN j):=by
 unfold sgL
 rw [List.getElem?_map,List.getElem?_range h];rfl
theorem sgL_drop {n j:Nat} (h:j < many n):(sgL n).drop j=segN j :: (sgL n).drop (j+1):=by
 have hl:j < (sgL n).length:=by rw [sgL_len];exact h
 rw [List.drop_eq_getElem_cons hl]
 have:=sgL_get h
 rw [List.getElem?_eq_getElem hl] at this
 rw [Option.some.inj this]
theorem sgL_mem {n i:Nat} {x:Int} : x ∈ (sgL n).drop i ↔ ∃ j,i≤j∧j < many n∧x=segN j:=by
 constructor
 ·intro h
  obtain ⟨k,hk⟩:=List.getElem?_of_mem h
  rw [List.getElem?_drop] at hk
  have hlt:i+k < many n:=by
   rcases Nat.lt_or_ge (i+k) (many n) with h1 | h1
   ·exact h1
   ·rw [List.getElem?_eq_none (by rw [sgL_len];exact h1)] at hk;cases hk
  rw [sgL_get hlt] at hk
  exact ⟨i+k,Nat.le_add_right _ _,hlt,(Option.some.inj hk).symm⟩
 ·rintro ⟨j,h1,h2,rfl⟩
  refine List.mem_of_getElem? (i:=j - i) ?_
  rw [List.getElem?_drop,show i+(j - i)=j by omega]
  exact sgL_get h2
theorem sgL_rise (n i:Nat):((sgL n).drop i).Pairwise (· < ·):=by
 refine List.Pairwise.sublist (List.drop_sublist _ _) ?_
 unfold sgL
 rw [List.pairwise_map]
 refine List.Pairwise.imp (fun {a b} h=>?_) (List.pairwise_lt_range)
 show segN a < segN b
 unfold segN;omega
structure Can (i:Nat) (F:List FrameD) (d:DiskD):Prop where
 r:rightB d=true
 sg:segs d=(sgL F.length).drop i
 h:∀ j,i≤j→j < many F.length→heldV d (segN j)=scan.put (chunk F j)
structure Fok (F:List FrameD):Prop where
 row:scan.row F 1 1=true
 fine:∀ f ∈ F,f.fine
theorem row_low {l:List FrameD} {n e e' : Int} (h:scan.row l n e=true) (he:e'≤e):scan.row l n e'=true:=by
 cases l with
 |nil=>rfl
 |cons f l =>
  obtain ⟨h1,h2,h3,h4⟩:=(scan.row_cons _ _ _ _).1 h
  exact (scan.row_cons _ _ _ _).2 ⟨h1,h2,Int.le_trans he h3,h4⟩
theorem last_ge:∀ (l:List FrameD) (n e:Int),scan.row l n e=true→e≤scan.last l e
 | [],_,e,_=>Int.le_refl e
 |f :: l,n,e,h=>by
  obtain ⟨h1,h2,h3,h4⟩:=(scan.row_cons _ _ _ _).1 h
  rw [scan.last_cons]
  exact Int.le_trans h3 (last_ge l _ _ h4)
theorem frow_at:∀ (l:List FrameD) (n e:Int) (k:Nat) (f:FrameD),scan.row l n e=true→l[k]?=some f→f.l=n+(k:Int)∧frame.right f=true
 | [],_,_,k,f,_,h=>by simp at h
 |g :: l,n,e,0,f,hr,h=>by
  obtain ⟨h1,h2,h3,h4⟩:=(scan.row_cons _ _ _ _).1 hr
  simp only [List.getElem?_cons_zero,Option.some.injEq] at h
  subst h
  exact ⟨by rw [h2];simp,h1⟩
 |g :: l,n,e,k+1,f,hr,h=>by
  obtain ⟨h1,h2,h3,h4⟩:=(scan.row_cons _ _ _ _).1 hr
  simp only [List.getElem?_cons_succ] at h
  have:=frow_at l _ _ k f h4 h
  exact ⟨by rw [this.1];push_cast;omega,this.2⟩
section
variable {F:List FrameD} {d:DiskD} {i j:Nat} {ep:Int}
theorem many_lt (h:j < many F.length):8 * j < F.length:=by unfold many at h;omega
theorem chunk_len (F:List FrameD) (j:Nat):(chunk F j).length=min 8 (F.length - 8 * j):=by unfold chunk;rw [List.length_take,List.length_drop]
theorem chunk_app (F:List FrameD) (j:Nat):F.drop (8 * j)=chunk F j++F.drop (8 * (j+1)):=by
 unfold chunk
 rw [show 8 * (j+1)=8 * j+8 by omega,← List.drop_drop,List.take_append_drop]
theorem chunk_fine (hF:Fok F):∀ f ∈ chunk F j,f.fine:=fun f hf=>hF.fine f (List.mem_of_mem_drop (List.mem_of_mem_take hf))
theorem chunk_row (h:scan.row (F.drop (8 * j)) (segN j) ep=true):scan.row (chunk F j) (segN j) ep=true∧(8 * (j+1)≤F.length→scan.row (F.drop (8 * (j+1))) (segN (j+1)) (scan.last (chunk F j) ep)=true):=by
 rw [chunk_app,scan.row_append,Bool.and_eq_true] at h
 refine ⟨h.1,fun h8=>?_⟩
 have hl:=chunk_len F j
 have e:segN j+((chunk F j).length:Int)=segN (j+1):=by rw [hl];unfold segN;omega
 rw [e] at h
 exact h.2
theorem fok_drop (hF:Fok F) (j:Nat) (hj:8 * j≤F.length):scan.row (F.drop (8 * j)) (segN j) 1=true:=by
 have h:=hF.row
 rw [← List.take_append_drop (8 * j) F,scan.row_append,Bool.and_eq_true] at h
 have e:(1:Int)+((F.take (8 * j)).length:Int)=segN j:=by rw [List.length_take];unfold segN;omega
 rw [e] at h
 exact row_low h.2 (last_ge _ _ _ h.1)
theorem put_small (hF:Fok F) (j:Nat):(scan.put (chunk F j)).take 576=scan.put (chunk F j):=List.take_of_length_le (by rw [scan.put_len,chunk_len];omega)
theorem scan_chunk (hC:Can i F d) (hF:Fok F) (hi:i≤j) (hj:j < many F.length) (hr:scan.row (F.drop (8 * j)) (segN j) ep=true):scanV d (segN j) ep=chunk F j:=by
 unfold scanV
 rw [hC.h j hi hj,put_small hF]
 have:=scan.all_puts (chunk F j) [] (segN j) ep (chunk_fine hF) (chunk_row hr).1
 rw [List.append_nil,scan.all_short (b:=[]) (by decide),List.append_nil] at this
 exact this
theorem last_getD {l:List FrameD} {e:Int} (h:l≠[]):scan.last l e=(l.getD (l.length - 1) frz).e:=by
 refine scan.last_get l _ e ?_
 rw [List.getLast?_eq_getElem?,List.getD_eq_getElem?_getD]
 have:l.length - 1 < l.length:=by have:=List.length_pos_iff.2 h;omega
 rw [List.getElem?_eq_getElem this];rfl
theorem chunk_at (F:List FrameD) (j k:Nat) (hk:k < 8):(chunk F j).getD k frz=F.getD (8 * j+k) frz:=by
 unfold chunk
 rw [List.getD_eq_getElem?_getD,List.getD_eq_getElem?_getD,List.getElem?_take_of_lt hk,List.getElem?_drop]
def endR (F:List FrameD) (all:List FrameD):RdS:=⟨(F.getD (F.length - 1) frz).e+1,(F.length:Int)+1,(F.length:Int),segN (many F.length - 1),((F.length - 8 * (many F.length - 1):Nat):Int),(F.getD (F.length - 1) frz).e,all⟩
theorem can_readG (hC:Can i F d) (hF:Fok F):∀ (m j:Nat) (r:RdS),many F.length - j=m→i≤j→j < many F.length→(r.g=0∨r.n=segN j)→scan.row (F.drop (8 * j)) (segN j) r.ep=true→readG d ((sgL F.length).drop j) r=endR F (r.all++F.drop (8 * j))
 | 0,j,r,hm,_,hj,_,_=>by omega
 |m + 1,j,r,hm,hi,hj,hg,hrow=>by
  have hs:=scan_chunk hC hF hi hj hrow
  have h8:=many_lt hj
  have hl:=chunk_len F j
  have hne:chunk F j≠[]:=fun e=>by rw [e] at hl;simp only [List.length_nil] at hl;omega
  have hheld:=hC.h j hi hj
  have hlast:(chunk F j).getD ((chunk F j).length - 1) frz=F.getD (8 * j+((chunk F j).length - 1)) frz:=chunk_at F j _ (by omega)
  have hidx:8 * j+((chunk F j).length - 1) < F.length:=by omega
  have hrl:=frow_at F 1 1 (8 * j+((chunk F j).length - 1)) _ hF.row (List.getElem?_eq_getElem hidx)
  have hgd:F.getD (8 * j+((chunk F j).length - 1)) frz=F[8 * j+((chunk F j).length - 1)]:=by rw [List.getD_eq_getElem?_getD,List.getElem?_eq_getElem hidx];rfl
  rw [← hgd,← hlast] at hrl
  rw [sgL_drop hj,readG,if_neg (fun h=>hg.elim h.1 (fun e=>h.2 e.symm)),hs,if_neg (by omega),if_neg (by rw [hheld,scan.put_len];omega)]
  have hst:stepR d r (segN j)=⟨((chunk F j).getD ((chunk F j).length - 1) frz).e+1,((chunk F j).getD ((chunk F j).length - 1) frz).l+1,((chunk F j).getD ((chunk F j).length - 1) frz).l,segN j,((chunk F j).length:Int),((chunk F j).getD ((chunk F j).length - 1) frz).e,r.all++chunk F j⟩:=by
   unfold stepR;rw [hs]
  rw [hst]
  by_cases hj2:j+1 < many F.length
  ·have h9:=many_lt hj2
   have hr2:=(chunk_row hrow).2 (by omega)
   rw [last_getD hne] at hr2
   rw [can_readG hC hF m (j+1) _ (by omega) (by omega) hj2 (.inr (by
    show ((chunk F j).getD ((chunk F j).length - 1) frz).l+1=segN (j+1)
    rw [hrl.1,hl];unfold segN;omega)) hr2]
   show endR F (r.all++chunk F j++F.drop (8 * (j+1)))=_
   rw [List.append_assoc,← chunk_app]
  ·have hjm:j=many F.length - 1:=by omega
   have hdr:(sgL F.length).drop (j+1)=[]:=List.drop_eq_nil_of_le (by rw [sgL_len];omega)
   have hlen:(chunk F j).length=F.length - 8 * j:=by rw [hl];unfold many at hj2;omega
   rw [hdr,readG]
   have e1:8 * j+((chunk F j).length - 1)=F.length - 1:=by omega
   rw [e1] at hlast
   have hca:chunk F j=F.drop (8 * j):=by
    unfold chunk;exact List.take_of_length_le (by rw [List.length_drop];unfold many at hj2;omega)
   unfold endR
   rw [← hjm,hrl.1,← hlen,← hca,hlast]
   congr 1
   ·omega
   ·omega
theorem can_read (hC:Can i F d) (hF:Fok F) (hi:i < many F.length):readL d=endR F (F.drop (8 * i)):=by
 show readG d (segs d) rdz=_
 rw [hC.sg,can_readG hC hF _ i rdz rfl (Nat.le_refl _) hi (.inl rfl) (fok_drop hF i (Nat.le_of_lt (many_lt hi)))]
 rfl
theorem can_none (hC:Can i F d) (hi:many F.length≤i):readL d=rdz:=by
 show readG d (segs d) rdz=_
 rw [hC.sg,List.drop_eq_nil_of_le (by rw [sgL_len];exact hi)];rfl
theorem sans_iff {nm:ByteArray} {fs:List FileD} {f:FileD} : f ∈ sans nm fs ↔ f ∈ fs∧f.name≠nm:=disk.mem_sans
theorem look_with_other {nm b:ByteArray} {bs:List Nat} (hp:Plain d) (hne:b≠nm):disk.look b (addF d.files nm bs)=disk.look b d.files:=by
 have hr:=plain_row hp
 cases h:disk.look b d.files with
 |some f =>
  obtain ⟨h1,h2⟩:=look_some h
  rw [← h2]
  exact look_of (row_with _ hr) ((mem_add hp).2 (.inr ⟨h1,by rw [h2];exact hne⟩))
 |none =>
  refine look_no fun g hg e=>?_
  rcases (mem_add hp).1 hg with rfl | ⟨hg,_⟩
  ·exact hne e.symm
  ·exact look_none h g hg e
theorem seg_bound (hC:Can i F d) (hi:i≤j) (hj:j < many F.length):1≤segN j∧segN j≤1000000000:=segs_rng d _ (by rw [hC.sg];exact sgL_mem.2 ⟨j,hi,hj,rfl⟩)
theorem can_sans {x:DiskD} (hC:Can i F d) (hi:i < many F.length) (hx:rightB x=true) (hf:x.files=sans (nameOf (segN i)) d.files):Can (i+1) F x:=by
 have hb:=seg_bound hC (Nat.le_refl _) hi
 refine ⟨hx,rise_ext (segs_rise x) (sgL_rise _ _) fun y=>?_,fun j h1 h2=>?_⟩
 ·rw [sgL_mem,segs_iff hx,hf]
  have hd:=fun y=>(segs_iff hC.r (n:=y))
  constructor
  ·rintro ⟨h0,f,hm,rfl⟩
   have hm':=sans_iff.1 hm
   have:numOf f.name ∈ segs d:=(hd _).2 ⟨h0,f,hm'.1,rfl⟩
   rw [hC.sg,sgL_mem] at this
   obtain ⟨j,h1,h2,h3⟩:=this
   refine ⟨j,?_,h2,h3⟩
   rcases Nat.lt_or_ge i j with h | h
   ·exact h
   ·obtain rfl:i=j:=by omega
    have:=(numOf_is (s:=f.name) h0).1
    rw [h3] at this
    exact absurd this hm'.2
  ·rintro ⟨j,h1,h2,rfl⟩
   have:segN j ∈ segs d:=by rw [hC.sg];exact sgL_mem.2 ⟨j,by omega,h2,rfl⟩
   obtain ⟨h0,f,hm,hn⟩:=(hd _).1 this
   refine ⟨h0,f,sans_iff.2 ⟨hm,fun e=>?_⟩,hn⟩
   rw [e,numOf_name (by omega) hb.2] at hn
   unfold segN at hn;omega
 ·have hbj:=seg_bound hC (by omega) h2
  rw [← hC.h j (by omega) h2,held_f,held_f]
  unfold heldF
  rw [hf,look_sans _ _ (right_files hC.r).2.2.1,if_neg]
  rw [nameV_in hbj]
  intro e
  have:=name_inj (by omega) (by omega) e
  unfold segN at this;omega
theorem can_files {x:DiskD} (hC:Can i F d) (hx:rightB x=true) (hf:x.files=d.files):Can i F x:=by
 refine ⟨hx,rise_ext (segs_rise x) (sgL_rise _ _) fun y=>?_,fun j h1 h2=>?_⟩
 ·rw [← hC.sg,segs_iff hx,segs_iff hC.r,hf]
 ·rw [← hC.h j h1 h2,held_f,held_f,hf]
theorem sures_sans {nm:ByteArray} {fs:List FileD} (h:Sures fs):Sures (sans nm fs):=fun f hf=>h f (sans_iff.1 hf).1
theorem can_add {B:List FrameD} (hp:Plain d) (hC:Can 0 F d) (hB:B≠[]) (hl:B.length≤8 - F.length % 8) (hn:F.length+B.length≤1000000000) (hx:Plain (addD d (nameOf (segN (F.length / 8))) (scan.put B))):Can 0 (F++B) (addD d (nameOf (segN (F.length / 8))) (scan.put B)):=by
 have hbp:1≤B.length:=List.length_pos_iff.2 hB
 have hlen:(F++B).length=F.length+B.length:=List.length_append
 have hgb:1≤segN (F.length / 8)∧segN (F.length / 8)≤1000000000:=by unfold segN;omega
 have hmany:many (F++B).length=F.length / 8+1:=by rw [hlen];unfold many;omega
 have hold:(oldOf (nameOf (segN (F.length / 8))) d.files).data=scan.put (chunk F (F.length / 8)):=by
  rw [← held_look hgb]
  rcases Nat.lt_or_ge (F.length / 8) (many F.length) with h | h
  ·exact hC.h _ (Nat.zero_le _) h
  ·have e:chunk F (F.length / 8)=[]:=List.eq_nil_of_length_eq_zero (by rw [chunk_len];unfold many at h;omega)
   rw [e,held_look hgb]
   rcases old_cases (nameOf (segN (F.length / 8))) d.files with ⟨_,e2⟩ | ⟨f,e2,_,hm,hnm⟩
   ·rw [e2];rfl
   ·have h2:segN (F.length / 8) ∈ segs d:=(segs_iff hC.r).2 ⟨by omega,f,hm,by rw [hnm,numOf_name (by omega) hgb.2]⟩
    rw [hC.sg,sgL_mem] at h2
    obtain ⟨j,_,h3,h4⟩:=h2
    unfold segN at h4;unfold many at h h3;omega
 refine ⟨hx.1,rise_ext (segs_rise _) (sgL_rise _ _) fun y=>?_,fun j _ hj=>?_⟩
 ·rw [segs_iff hx.1,sgL_mem,hmany]
  constructor
  ·rintro ⟨h0,f,hm,rfl⟩
   rcases (mem_add hp).1 hm with rfl | ⟨hm,_⟩
   ·exact ⟨F.length / 8,Nat.zero_le _,Nat.lt_succ_self _,by show numOf (nameOf (segN (F.length / 8)))=_;rw [numOf_name (by omega) hgb.2]⟩
   ·have:numOf f.name ∈ segs d:=(segs_iff hC.r).2 ⟨h0,f,hm,rfl⟩
    rw [hC.sg,sgL_mem] at this
    obtain ⟨j,h1,h2,h3⟩:=this
    exact ⟨j,h1,by unfold many at h2;omega,h3⟩
  ·rintro ⟨j,h1,h2,rfl⟩
   refine ⟨by unfold segN;omega,?_⟩
   by_cases hj:j=F.length / 8
   ·subst hj
    exact ⟨_,(mem_add hp).2 (.inl rfl),by show numOf (nameOf (segN (F.length / 8)))=_;rw [numOf_name (by omega) hgb.2]⟩
   ·have hjm:j < many F.length:=by unfold many;omega
    have:segN j ∈ segs d:=by rw [hC.sg];exact sgL_mem.2 ⟨j,h1,hjm,rfl⟩
    obtain ⟨h0,f,hm,hnm⟩:=(segs_iff hC.r).1 this
    refine ⟨f,(mem_add hp).2 (.inr ⟨hm,fun e=>?_⟩),hnm⟩
    rw [e,numOf_name (by omega) hgb.2] at hnm
    unfold segN at hnm;omega
 ·rw [hmany] at hj
  have hbj:1≤segN j∧segN j≤1000000000:=by unfold segN;omega
  by_cases e:j=F.length / 8
  ·subst e
   rw [held_look hbj]
   show (oldOf (nameOf (segN (F.length / 8))) (addF d.files (nameOf (segN (F.length / 8))) (scan.put B))).data=_
   rw [old_add hp]
   show (oldOf (nameOf (segN (F.length / 8))) d.files).data++scan.put B=_
   rw [hold,← scan.put_append]
   congr 1
   unfold chunk
   rw [List.drop_append_of_le_length (by omega),List.take_of_length_le (by rw [List.length_drop];omega),List.take_of_length_le (by rw [List.length_append,List.length_drop];omega)]
  ·have hjm:j < many F.length:=by unfold many;omega
   have hne:nameV (segN j)≠nameOf (segN (F.length / 8)):=by
    rw [nameV_in hbj]
    intro e2
    have:=name_inj (by omega) (by omega) e2
    unfold segN at this;omega
   have e2:heldV (addD d (nameOf (segN (F.length / 8))) (scan.put B)) (segN j)=heldV d (segN j):=by
    rw [held_f,held_f]
    unfold heldF
    have:disk.look (nameV (segN j)) (addF d.files (nameOf (segN (F.length / 8))) (scan.put B))=disk.look (nameV (segN j)) d.files:=look_with_other hp hne
    show (match disk.look (nameV (segN j)) (addF d.files (nameOf (segN (F.length / 8))) (scan.put B)) with | some f=>f.data | none=>[])=_
    rw [this];rfl
   rw [e2,hC.h j (Nat.zero_le _) hjm]
   congr 1
   unfold chunk
   have h8:8 * j+8≤F.length:=by omega
   rw [List.drop_append_of_le_length (by omega),List.take_append_of_le_length (by rw [List.length_drop];omega)]
end
end Go.Proofs.YtalhdalinpdanaaGreatDoor.wal
end
section
namespace Go.Proofs.YtalhdalinpdanaaGreatDoor.wal
set_option maxRecDepth 20000
open Go.RowKit Go.Proofs.YtalhdalinpdanaaGreatDoor Go.Proofs.YtalhdalinpdanaaGreatDoor.frame Go.Proofs.YtalhdalinpdanaaGreatDoor.disk
def upto (n b:Nat):Nat:=min (b / 8) (many n - 1)
structure Drp (i:Nat) (F:List FrameD) (b:Nat) (d z:DiskD) (e:Int):Prop where
 c:∃ k,i≤k∧(k=i∨8 * k≤b)∧(i < many F.length→k < many F.length)∧Can k F z∧(e=0→i < many F.length→k=max i (upto F.length b))
 s:Sures z.files
 m:z.room=d.room
 ok:e=0→z.down=false∧(d.fuse = -1→z.fuse = -1)
 no:e≠0→e=9∧d.fuse ≠ -1
section
variable {F:List FrameD} {b:Nat}
theorem drp_here {i:Nat} {d:DiskD} (hC:Can i F d) (hs:Sures d.files) (hd:d.down=false) (hu:i < many F.length→upto F.length b≤i):Drp i F b d d 0 :=
 ⟨⟨i,Nat.le_refl _,.inl rfl,id,hC,fun _ hi=>by have:=hu hi;omega⟩,hs,rfl,fun _=>⟨hd,id⟩,fun h=>absurd rfl h⟩
theorem can_dropA (hb:b≤F.length):∀ (m i:Nat) (d:DiskD),many F.length - i=m→Can i F d→Sures d.files→d.down=false →
  Drp i F b d (dropA (segN (many F.length - 1)) (F.length:Int) (b:Int) ((sgL F.length).drop i) d).1 (dropA (segN (many F.length - 1)) (F.length:Int) (b:Int) ((sgL F.length).drop i) d).2
 | 0,i,d,hm,hC,hs,hd=>by
  rw [List.drop_eq_nil_of_le (by rw [sgL_len];omega)]
  exact drp_here hC hs hd (fun h=>by omega)
 |m + 1,i,d,hm,hC,hs,hd=>by
  have hi:i < many F.length:=by omega
  rw [sgL_drop hi,dropA_cons]
  by_cases hlast:i+1 < many F.length
  ·rw [sgL_drop hlast]
   simp only
   by_cases hl:(b:Int) < segN (i+1) - 1
   ·rw [if_pos hl]
    exact drp_here hC hs hd (fun _=>by unfold upto segN at *;omega)
   ·rw [if_neg hl,if_neg (by unfold segN;omega),← sgL_drop hlast]
    have hin:segN i ∈ segs d:=by rw [hC.sg];exact sgL_mem.2 ⟨i,Nat.le_refl _,hi,rfl⟩
    have hr2:rightB (removeD d (nameV (segN i))).1=true:=right_remove hC.r
    rcases remove_seg hC.r hd hin with ⟨h0,e⟩ | ⟨h0,e⟩
    ·rw [e] at hr2
     rw [e,if_neg (show ¬ (9:Int)=0 by decide)]
     exact ⟨⟨i,Nat.le_refl _,.inl rfl,id,can_files hC hr2 rfl,fun h=>absurd h (show ¬ (9:Int)=0 by decide)⟩,hs,rfl,fun h=>absurd h (show ¬ (9:Int)=0 by decide),fun _=>⟨rfl,by omega⟩⟩
    ·rw [e] at hr2
     rw [e,if_pos rfl]
     have hC2:Can (i+1) F ⟨sans (nameOf (segN i)) d.files,d.room,if 0 < d.fuse then d.fuse - 1 else d.fuse,false⟩:=can_sans hC hi hr2 rfl
     obtain ⟨⟨k,k1,k2,k3,k4,k5⟩,g1,g2,g3,g4⟩:=can_dropA hb m (i+1) _ (by omega) hC2 (sures_sans hs) rfl
     have hfu:d.fuse = -1→(if 0 < d.fuse then d.fuse - 1 else d.fuse) = -1:=fun h=>by rw [if_neg (by omega)];exact h
     refine ⟨⟨k,by omega,.inr (by unfold segN at hl;omega),fun _=>k3 hlast,k4,fun h _=>?_⟩,g1,g2,fun h=>⟨(g3 h).1,fun hf=>(g3 h).2 (hfu hf)⟩,fun h=>⟨(g4 h).1,fun hf=>(g4 h).2 (hfu hf)⟩⟩
     rw [k5 h hlast]
     unfold upto segN at *;omega
  ·have hj:i=many F.length - 1:=by omega
   rw [List.drop_eq_nil_of_le (by rw [sgL_len];omega)]
   simp only
   by_cases hl:(b:Int) < (F.length:Int)
   ·rw [if_pos hl]
    exact drp_here hC hs hd (fun _=>by unfold upto;omega)
   ·rw [if_neg hl,if_pos (by rw [← hj])]
    exact drp_here hC hs hd (fun _=>by unfold upto;omega)
end
def gN (n:Nat):Int:=if n=0 then 0 else segN (many n - 1)
def cN (n:Nat):Int:=if n=0 then 0 else ((n - 8 * (many n - 1):Nat):Int)
abbrev wN (n:Nat):Wl:=⟨1,(n:Int)+1,(n:Int),gN n,cN n,[]⟩
structure Cn (k:Nat) (F:List FrameD) (v:Wl) (d:DiskD):Prop where
 p:Plain d
 s:Sures d.files
 c:Can 0 F d
 ok:Fok F
 n:F.length=k
 e:∀ f ∈ F,f.e=1
 w:v=wN k
 f:fitsL v d=true
 m:d.room=65536
 u:used d.files≤72 * k
 l:d.files.length≤k
section
variable {n:Nat} {F:List FrameD} {w:Wl} {d z:DiskD} {b:Nat}
theorem sures_add {nm:ByteArray} {bs:List Nat} (hp:Plain d) (h:Sures d.files):Sures (addF d.files nm bs):=fun f hf=>by
 rcases (mem_add hp).1 hf with rfl | ⟨hf,_⟩
 ·rfl
 ·exact h f hf
theorem cn_step (h:Cn n F w d) (hn:n < 60) {k b0 b1 b2 b3 b4 b5:Int} (hk:¬ (k < 1∨6 < k)) (hi:inI k∧inI b0∧inI b1∧inI b2∧inI b3∧inI b4∧inI b5) :
  putW w k b0 b1 b2 b3 b4 b5=(wit w (w.n+1) [newF w k b0 b1 b2 b3 b4 b5],0)∧∃ C E,commitL (wit w (w.n+1) [newF w k b0 b1 b2 b3 b4 b5]) d=(C,E,0)∧Cn (n+1) (F++[newF w k b0 b1 b2 b3 b4 b5]) C E:=by
 have hw:=h.w
 have hr:right w=true:=right_of_fits h.f
 have hq:¬ (k < 1∨6 < k)∧¬ 1000000000 < w.n∧¬ 32≤w.ws.length:=⟨hk,by rw [hw];show ¬ 1000000000 < (n:Int)+1;omega,by rw [hw];simp⟩
 have hws:w.ws=[]:=by rw [hw]
 have e1:=put_yes (b0:=b0) (b1:=b1) (b2:=b2) (b3:=b3) (b4:=b4) (b5:=b5) hr hq
 have hf1:=put_fits (b0:=b0) (b1:=b1) (b2:=b2) (b3:=b3) (b4:=b4) (b5:=b5) h.f hq
 have hr1:=put_right (b0:=b0) (b1:=b1) (b2:=b2) (b3:=b3) (b4:=b4) (b5:=b5) hr hq
 rw [hws,List.nil_append] at e1 hf1 hr1
 refine ⟨e1,?_⟩
 obtain ⟨nf,hnf⟩:∃ nf,newF w k b0 b1 b2 b3 b4 b5=nf:=⟨_,rfl⟩
 rw [hnf] at hf1 hr1 ⊢
 obtain ⟨s,hs0⟩:∃ s,wit w (w.n+1) [nf]=s:=⟨_,rfl⟩
 rw [hs0] at hf1 hr1 ⊢
 have hsw:s.ws=[nf]:=by rw [← hs0]
 have hne:s.ws≠[]:=by rw [hsw];simp
 have hu:=h.u;have hl:=h.l;have hm:=h.m
 have hbud:Bud s d:=⟨h.p,hr1,by rw [hsw,hm];simp only [List.length_singleton];omega,by rw [hsw];simp only [List.length_singleton];omega⟩
 obtain ⟨ew,hb2⟩:=bud_write hbud hne
 have hbeg:(begun w).g=segN (n / 8)∧(begun w).c=((n % 8:Nat):Int):=by
  rw [hw]
  unfold begun wN gN cN
  by_cases h0:n=0
  ·subst h0;simp [segN]
  ·simp only [if_neg h0]
   by_cases h8:n % 8=0
   ·rw [if_pos (.inr (by unfold many;omega))]
    exact ⟨by unfold segN;show (n:Int)+1=_;omega,by show (0:Int)=_;omega⟩
   ·rw [if_neg (by unfold segN many;omega)]
    exact ⟨by show segN (many n - 1)=_;unfold segN many;omega,by show ((n - 8 * (many n - 1):Nat):Int)=_;unfold many;omega⟩
 have hroom:room s=1:=by
  rw [← hs0,room_wit,hbeg.2];simp only [List.length_singleton];omega
 have hst:stepW s=wN (n+1):=by
  rw [← hs0] at hroom ⊢
  rw [step_wit hroom,hbeg.1,hbeg.2,hw]
  show (⟨1,(n:Int)+1+1,(n:Int)+((1:Nat):Int),segN (n / 8),((n % 8:Nat):Int)+((1:Nat):Int),List.drop 1 [nf]⟩:Wl)=wN (n+1)
  unfold wN gN cN
  rw [if_neg (Nat.succ_ne_zero n),if_neg (Nat.succ_ne_zero n)]
  simp only [Wl.mk.injEq,true_and,List.drop_succ_cons,List.drop_nil,and_true]
  refine ⟨by push_cast;omega,by push_cast;omega,by unfold segN many;omega,by unfold many;omega⟩
 have hgs:(stepW s).g=segN (F.length / 8):=by rw [hst,h.n];unfold wN gN;simp only [if_neg (Nat.succ_ne_zero n)];unfold segN many;omega
 have htk:s.ws.take (room s)=[nf]:=by rw [hroom,hsw];rfl
 have hfit:=fits_add hf1 hbud hne
 rw [htk,hgs] at ew hb2 hfit
 have hcm:commitL s d=(stepW s,addD d (nameOf (segN (F.length / 8))) (scan.put [nf]),0):=by
  unfold commitL
  rw [if_pos hf1,show (33:Nat)=31+1+1 from rfl,commitA,if_neg hne,ew,if_pos rfl]
  show commitA (31+1) (stepW s) _=_
  rw [commitA,if_pos (by rw [hst])]
 rw [hst] at hcm hfit hb2
 refine ⟨_,_,hcm,hb2.p,sures_add h.p h.s,?_,?_,?_,?_,rfl,hfit,hm,?_,?_⟩
 ·exact can_add h.p h.c (by simp) (by simp only [List.length_singleton];omega) (by rw [h.n];simp only [List.length_singleton];omega) hb2.p
 ·refine ⟨?_,fun f hf=>?_⟩
  ·rw [scan.row_append,h.ok.row,last_all F 1 h.e,Bool.true_and]
   refine (scan.row_cons _ _ _ _).2 ⟨?_,?_,?_,rfl⟩
   ·rw [← hnf,hw];unfold frame.right newF wN
    exact decide_eq_true (by simp only;omega)
   ·rw [← hnf,hw,h.n];show (n:Int)+1=1+(n:Int);omega
   ·rw [← hnf,hw];exact Int.le_refl _
  ·rcases List.mem_append.1 hf with hf | hf
   ·exact h.ok.fine f hf
   ·rw [List.mem_singleton.1 hf,← hnf,hw]
    exact ⟨by show inI (1:Int);unfold inI;omega,by show inI ((n:Int)+1);unfold inI;omega,hi⟩
 ·rw [List.length_append,h.n];rfl
 ·intro f hf
  rcases List.mem_append.1 hf with hf | hf
  ·exact h.e f hf
  ·rw [List.mem_singleton.1 hf,← hnf,hw];rfl
 ·show used (addF d.files _ _)≤_
  rw [(used_add h.p _ _).1,scan.put_len];simp only [List.length_singleton];omega
 ·show (addF d.files _ _).length≤_
  have:=(used_add h.p (nameOf (segN (F.length / 8))) (scan.put [nf])).2.1;omega
theorem keep_drop (hF:Fok F) {k:Nat} (hk:8 * k≤b):keepD ((b:Int)+1) (F.drop (8 * k))=keepD ((b:Int)+1) F:=by
 conv=>rhs;rw [← List.take_append_drop (8 * k) F]
 unfold keepD
 rw [List.filter_append]
 have:(F.take (8 * k)).filter (fun f => !decide (f.l < (b:Int)+1))=[]:=by
  refine List.filter_eq_nil_iff.2 fun f hf=>?_
  obtain ⟨j,hj⟩:=List.getElem?_of_mem hf
  have hjl:j < 8 * k:=by
   rcases Nat.lt_or_ge j (8 * k) with h1 | h1
   ·exact h1
   ·rw [List.getElem?_eq_none (by rw [List.length_take];omega)] at hj;cases hj
  rw [List.getElem?_take_of_lt hjl] at hj
  have:=(frow_at F 1 1 j f hF.row hj).1
  rw [Bool.not_eq_true',decide_eq_false_iff_not,Int.not_lt,Int.not_le]
  omega
 rw [this,List.nil_append]
theorem can_open (h:Cn n F w d) (hn:n≤60) (hb:b≤n) {k:Nat} (hz:Plain z) (hC:Can k F z) (hk:8 * k≤b) (hkn:0 < n→k < many F.length) :
  ∃ W X,openL z b=(W,X,keepD ((b:Int)+1) F,0)∧W.u=w.u∧W.g=w.g∧W.c=w.c:=by
 have hnl:=h.n
 have hop:opensL z b=0:=opens_zero hz.1 hz.2.1 ⟨by omega,by omega⟩ (fun hl=>by
  rw [hC.sg] at hl ⊢
  rw [List.length_drop,sgL_len] at hl
  rw [sgL_drop (by omega)]
  show segN k≤_
  unfold segN;omega)
 rcases Nat.eq_zero_or_pos n with h0 | h0
 ·have hm0:many F.length≤k:=by rw [hnl,h0];unfold many;omega
  have hrd:=can_none hC hm0
  have hnew:isNew z (b:Int):=.inl (by show (readL z).g=0;rw [hrd];rfl)
  have e:F=[]:=List.eq_nil_of_length_eq_zero (by omega)
  have e2:(readL z).all=[]:=by rw [hrd];rfl
  refine ⟨newW z (b:Int),⟨fin z (b:Int),z.room, -1,false⟩,by rw [open_plain hz hop (.inl hnew),e2,e],?_⟩
  unfold newW
  rw [if_pos hnew,h.w,h0]
  exact ⟨by show (b:Int)=((0:Nat):Int);omega,rfl,rfl⟩
 ·have hrd:=can_read hC h.ok (hkn h0)
  have hm1:0 < many F.length:=by have:=hkn h0;omega
  have hnn:¬ isNew z (b:Int):=fun hx=>by
   rcases hx with hx | hx
   ·have h1:(readL z).g=0:=hx
    rw [hrd] at h1
    have h2:segN (many F.length - 1)=0:=h1
    unfold segN at h2;omega
   ·have h1:(readL z).u < (b:Int):=hx
    rw [hrd] at h1
    have h2:(F.length:Int) < (b:Int):=h1
    omega
  have hle:F.length - 1 < F.length:=by omega
  have hlast:(F.getD (F.length - 1) frz).e=1:=by
   rw [List.getD_eq_getElem?_getD,List.getElem?_eq_getElem hle]
   exact h.e _ (List.getElem_mem hle)
  have e2:(readL z).all=F.drop (8 * k):=by rw [hrd];rfl
  refine ⟨newW z (b:Int),⟨fin z (b:Int),z.room, -1,false⟩,by rw [open_plain hz hop (.inr (by rw [hrd];show (F.getD (F.length - 1) frz).e+1≤1000000;rw [hlast];decide)),e2,keep_drop h.ok hk],?_⟩
  unfold newW
  rw [if_neg hnn,hrd,h.w]
  unfold endR wlOf wN gN cN
  rw [if_neg (by omega),if_neg (by omega),hnl]
  exact ⟨rfl,rfl,rfl⟩
theorem can_fits (h:Cn n F w d) {k:Nat} (hC:Can k F z) (hkn:0 < n→k < many F.length):fitsL w z=true:=by
 refine fits_iff.2 ⟨right_of_fits h.f,hC.r,fun x hx=>?_,?_⟩
 ·rw [hC.sg,sgL_mem] at hx
  obtain ⟨j,_,h2,rfl⟩:=hx
  have:=many_lt h2
  rw [h.w];show segN j≤(n:Int)
  have:=h.n
  unfold segN;omega
 ·rcases Nat.eq_zero_or_pos n with h0 | h0
  ·exact .inl (by rw [h.w,h0];rfl)
  ·have hk:=hkn h0
   have hg:w.g=segN (many F.length - 1):=by rw [h.w,h.n];unfold wN gN;simp only [if_neg (show ¬ n=0 by omega)]
   have hc:w.c=((n - 8 * (many n - 1):Nat):Int):=by rw [h.w];unfold wN cN;simp only [if_neg (show ¬ n=0 by omega)]
   refine .inr ?_
   rw [hg,hc,hC.h _ (by omega) (by omega),scan.put_len,chunk_len,h.n]
   have:8 * (many n - 1) < n:=by unfold many;omega
   have:n - 8 * (many n - 1)≤8:=by unfold many;omega
   omega
theorem can_drop (h:Cn n F w d) (hb:b≤n) {k:Nat} (hC:Can k F z) (hs:Sures z.files) (hd:z.down=false) (hkn:0 < n→k < many F.length):Drp k F b z (dropL w z b).1 (dropL w z b).2:=by
 have hf:=can_fits h hC hkn
 have hnl:=h.n
 unfold dropL
 rw [if_pos hf,hC.sg]
 rcases Nat.eq_zero_or_pos n with h0 | h0
 ·have hm0:many F.length≤k:=by rw [hnl,h0];unfold many;omega
  rw [List.drop_eq_nil_of_le (by rw [sgL_len];exact hm0)]
  exact drp_here hC hs hd (fun hk=>by omega)
 ·have:=can_dropA (F:=F) (b:=b) (by omega) _ k z rfl hC hs hd
  have hg:w.g=segN (many F.length - 1):=by rw [h.w,h.n];unfold wN gN;simp only [if_neg (show ¬ n=0 by omega)]
  have hu:w.u=(F.length:Int):=by rw [h.w,h.n]
  rw [hg,hu];exact this
theorem drops_all (h:Cn n F w d) (hn:n≤60) (hb:b≤n) {q:Int} (hq:0≤q) (ks:List Int) {x:DiskD} {f:Int} (hx:dropL w ⟨d.files,d.room,q,d.down⟩ b=(x,f)) :
  (∃ W X,openL d b=(W,X,keepD ((b:Int)+1) F,0))∧(f=0∨f=9)∧(backD x ks (-1)).2=0 ∧
  (∃ W X,openL (backD x ks (-1)).1 b=(W,X,keepD ((b:Int)+1) F,0)∧W.u=w.u∧W.g=w.g∧W.c=w.c) ∧
  ∃ Y,dropL w (backD x ks (-1)).1 b=(Y,0)∧dropL w Y b=(Y,0)∧rightB Y=true ∧
   (n=0∨(0 < (segs Y).length∧(segs Y).getD ((segs Y).length - 1) 0=w.g∧((segs Y).length=1∨(b:Int)+1 < (segs Y).getD 1 0))):=by
 have hnl:=h.n
 have h0m:0 < n→0 < many F.length:=fun h0=>by rw [hnl];unfold many;omega
 obtain ⟨W0,X0,g0,_⟩:=can_open h hn hb h.p h.c (Nat.zero_le _) h0m
 have hrc:rightB ⟨d.files,d.room,q,d.down⟩=true:=by
  obtain ⟨r1,_,r3⟩:=(right_iff d).1 h.p.1
  exact (right_iff _).2 ⟨r1,by show -1≤q;omega,r3⟩
 have hD:=can_drop (z:=⟨d.files,d.room,q,d.down⟩) h hb (can_files h.c hrc rfl) h.s h.p.2.1 h0m
 rw [hx] at hD
 obtain ⟨⟨k,k1,k2,k3,k4,k5⟩,s1,s2,s3,s4⟩:=hD
 have hk3:0 < n→k < many F.length:=fun h0=>k3 (h0m h0)
 have hk2:8 * k≤b:=by rcases k2 with e | e<;>omega
 obtain ⟨b1,b2,b3⟩:=plain_back k4.r ks
 rw [back_again ks s1] at b3
 obtain ⟨B,hB⟩:∃ B,(backD x ks (-1)).1=B:=⟨_,rfl⟩
 rw [hB] at b2 b3 ⊢
 have hCB:Can k F B:=can_files k4 b2.1 b3
 obtain ⟨W1,X1,g1,g2⟩:=can_open h hn hb b2 hCB hk2 hk3
 have hsB:Sures B.files:=by rw [b3];exact s1
 have hE:=can_drop h hb hCB hsB b2.2.1 hk3
 have he:(dropL w B b).2=0:=by
  by_cases h0:(dropL w B b).2=0
  ·exact h0
  ·exact absurd b2.2.2 (hE.no h0).2
 obtain ⟨⟨k',l1,l2,l3,l4,l5⟩,t1,t2,t3,t4⟩:=hE
 have hl3:0 < n→k' < many F.length:=fun h0=>l3 (hk3 h0)
 obtain ⟨Y,hY⟩:∃ Y,(dropL w B b).1=Y:=⟨_,rfl⟩
 rw [hY] at l4 t1 t2 t3
 have hYe:dropL w B b=(Y,0):=Prod.ext hY he
 have hYd:=(t3 he).1
 have hYf:=(t3 he).2 b2.2.2
 have hup:0 < n→upto F.length b≤k':=fun h0=>by have:=l5 he (hk3 h0);omega
 have hF2:=can_fits h l4 hl3
 have hYY:dropL w Y b=(Y,0):=by
  unfold dropL
  rw [if_pos hF2,l4.sg]
  rcases Nat.eq_zero_or_pos n with h0 | h0
  ·have hm0:many F.length≤k':=by rw [hnl,h0];unfold many;omega
   rw [List.drop_eq_nil_of_le (by rw [sgL_len];exact hm0)];rfl
  ·have hu:=hup h0;have hlt:=hl3 h0
   have hg:w.g=segN (many F.length - 1):=by rw [h.w,h.n];unfold wN gN;simp only [if_neg (show ¬ n=0 by omega)]
   have hwu:w.u=(F.length:Int):=by rw [h.w,h.n]
   rw [hg,hwu,sgL_drop hlt,dropA_cons]
   by_cases hlast:k'+1 < many F.length
   ·rw [sgL_drop hlast]
    simp only
    rw [if_pos (by unfold upto at hu;unfold segN;omega)]
   ·rw [List.drop_eq_nil_of_le (by rw [sgL_len];omega)]
    simp only
    by_cases hbn:(b:Int) < (F.length:Int)
    ·rw [if_pos hbn]
    ·rw [if_neg hbn,if_pos (by congr 1;omega)];rfl
 refine ⟨⟨W0,X0,g0⟩,?_,b1,⟨W1,X1,g1,g2⟩,Y,hYe,hYY,l4.r,?_⟩
 ·by_cases h0:f=0
  ·exact .inl h0
  ·exact .inr (s4 h0).1
 ·rcases Nat.eq_zero_or_pos n with h0 | h0
  ·exact .inl h0
  ·right
   have hu:=hup h0;have hlt:=hl3 h0
   have hlen:(segs Y).length=many F.length - k':=by rw [l4.sg,List.length_drop,sgL_len]
   have hat:∀ i,k'+i < many F.length→(segs Y).getD i 0=segN (k'+i):=fun i hi=>by
    rw [l4.sg,List.getD_eq_getElem?_getD,List.getElem?_drop,sgL_get hi];rfl
   refine ⟨by omega,?_,?_⟩
   ·rw [hat _ (by omega),hlen,h.w]
    unfold wN gN
    simp only [if_neg (show ¬ n=0 by omega)]
    rw [← hnl];congr 1;omega
   ·by_cases h1:(segs Y).length=1
    ·exact .inl h1
    ·right
     rw [hat 1 (by omega)]
     unfold upto at hu;unfold segN;omega
theorem cn_zero:Cn 0 [] (wN 0) ⟨[],65536, -1,false⟩:=by
 have hp:Plain ⟨[],65536, -1,false⟩:=plain_new
 have hs:segs ⟨[],65536, -1,false⟩=[]:=by unfold segs;rw [if_pos hp.1];rfl
 refine ⟨hp,fun f hf=>(by cases hf),⟨hp.1,(by rw [hs];rfl),fun j _ hj=>(by have:=many_lt hj;simp at this)⟩,⟨rfl,fun f hf=>(by cases hf)⟩,rfl,fun f hf=>(by cases hf),rfl,(by decide +kernel),rfl,(by decide),(by decide)⟩
end
end Go.Proofs.YtalhdalinpdanaaGreatDoor.wal
end
