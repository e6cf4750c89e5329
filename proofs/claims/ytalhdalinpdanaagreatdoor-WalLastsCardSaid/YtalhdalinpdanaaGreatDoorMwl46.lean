/-
  WalQ, WalA1, WalA2, WalA3, WalA4, WalA5, WalC
-/
import Derived.Test.YtalhdalinpdanaaGreatDoorMwl41
import Derived.Test.YtalhdalinpdanaaGreatDoorMwl45
import Derived.Test.YtalhdalinpdanaaGreatDoorMwl40
import Derived.Test.YtalhdalinpdanaaGreatDoorMwl18
set_option linter.unusedVariables false
set_option linter.unusedSimpArgs false
section
namespace Go.Proofs.YtalhdalinpdanaaGreatDoor.wal
set_option maxRecDepth 20000
open Go.RowKit Go.Proofs.YtalhdalinpdanaaGreatDoor Go.Proofs.YtalhdalinpdanaaGreatDoor.frame Go.Proofs.YtalhdalinpdanaaGreatDoor.disk
abbrev lastF (q:List FrameD):FrameD:=q.getD (q.length - 1) frz
theorem scan_lsn:∀ (k:Nat) (b:List Nat) (n e:Int) (j:Nat),j < (scan.scan k b n e).length→((scan.scan k b n e).getD j frz).l=n+(j:Int)
 | 0,b,n,e,j,h=>by simp [scan.scan] at h
 |k + 1,b,n,e,j,h=>by
  rw [scan.scan] at h ⊢
  split at h
  ·rename_i hc
   rw [if_pos hc]
   cases j with
   |zero=>simp;exact hc.2.2.1
   |succ j =>
    have:=scan_lsn k (b.drop 72) (n+1) (dec (b.take 72)).2.e j (by simpa using h)
    rw [List.getD_cons_succ,this]
    push_cast;omega
  ·simp at h
theorem scanV_lsn {t:DiskD} {a ep:Int} (h:(scanV t a ep).length≠0):(lastF (scanV t a ep)).l=a+((scanV t a ep).length:Int) - 1:=by
 have:=scan_lsn _ ((heldV t a).take 576) a ep ((scanV t a ep).length - 1) (by show (scanV t a ep).length - 1 < (scanV t a ep).length;omega)
 have e:(lastF (scanV t a ep)).l=a+(((scanV t a ep).length - 1:Nat):Int):=this
 rw [e];omega
theorem rise_ext:∀ {l m:List Int},l.Pairwise (· < ·)→m.Pairwise (· < ·)→(∀ x,x ∈ l ↔ x ∈ m)→l=m
 | [],[],_,_,_=>rfl
 | [],b :: m,_,_,h=>absurd ((h b).2 (by simp)) (by simp)
 |a :: l,[],_,_,h=>absurd ((h a).1 (by simp)) (by simp)
 |a :: l,b :: m,h1,h2,h=>by
  obtain ⟨a1,a2⟩:=List.pairwise_cons.1 h1
  obtain ⟨b1,b2⟩:=List.pairwise_cons.1 h2
  have hab:a=b:=by
   rcases List.mem_cons.1 ((h a).1 (by simp)) with e | ha
   ·exact e
   ·rcases List.mem_cons.1 ((h b).2 (by simp)) with e | hb
    ·exact e.symm
    ·have:=b1 a ha;have:=a1 b hb;omega
  subst hab
  rw [rise_ext a2 b2 fun x=>?_]
  constructor
  ·intro hx
   rcases List.mem_cons.1 ((h x).1 (List.mem_cons_of_mem _ hx)) with e | hx'
   ·have:=a1 x hx;omega
   ·exact hx'
  ·intro hx
   rcases List.mem_cons.1 ((h x).2 (List.mem_cons_of_mem _ hx)) with e | hx'
   ·have:=b1 x hx;omega
   ·exact hx'
theorem rem_ok {d:DiskD} {nm:ByteArray} (h:(removeD d nm).2=0):(removeD d nm).1.files=sans nm d.files:=by
 unfold removeD at h ⊢
 rcases op_cases d nm nm (noE d.files nm) (sans nm d.files) false with ⟨h1,e⟩ | ⟨_,h1,e⟩ | ⟨_,_,_,e⟩ | ⟨_,_,_,e⟩<;>rw [e] at h ⊢
 ·exact absurd h h1
 ·exact absurd h h1
 ·exact absurd h (by show ¬ ((9:Int)=0);decide)
theorem mem_sans {nm:ByteArray} {fs:List FileD} {f:FileD} : f ∈ sans nm fs ↔ f ∈ fs∧f.name≠nm:=by
 unfold sans
 rw [List.mem_filter]
 constructor
 ·rintro ⟨h1,h2⟩;exact ⟨h1,fun e=>by rw [same_iff.2 e] at h2;cases h2⟩
 ·rintro ⟨h1,h2⟩
  refine ⟨h1,?_⟩
  cases hs:sameName f.name nm with
  |false=>rfl
  |true=>exact absurd (same_iff.1 hs) h2
theorem segs_remove {d:DiskD} {n:Int} (hr:rightB d=true) (hn:1≤n∧n≤1000000000) (h:(removeD d (nameV n)).2=0) (x:Int):x ∈ segs (removeD d (nameV n)).1 ↔ x ∈ segs d∧x≠n:=by
 have e:nameV n=nameOf n:=by unfold nameV;rw [if_pos hn]
 rw [segs_iff (right_remove hr),segs_iff hr,rem_ok h,e]
 constructor
 ·rintro ⟨h0,f,hf,rfl⟩
  obtain ⟨h1,h2⟩:=mem_sans.1 hf
  refine ⟨⟨h0,f,h1,rfl⟩,fun e2=>h2 ?_⟩
  have:=(numOf_is h0).1
  rw [this,e2]
 ·rintro ⟨⟨h0,f,hf,rfl⟩,h2⟩
  refine ⟨h0,f,mem_sans.2 ⟨hf,fun e2=>h2 ?_⟩,rfl⟩
  rw [e2,numOf_name (by omega) hn.2]
section
variable {t:DiskD} {q:List FrameD × Nat × Nat × Bool} {no:Bool} {l:List Int}
end
end Go.Proofs.YtalhdalinpdanaaGreatDoor.wal
end
section
namespace Go.Proofs.YtalhdalinpdanaaGreatDoor.wal
set_option maxRecDepth 20000
open Go.RowKit Go.Proofs.YtalhdalinpdanaaGreatDoor Go.Proofs.YtalhdalinpdanaaGreatDoor.frame Go.Proofs.YtalhdalinpdanaaGreatDoor.disk
def keepTo (m:Int) (fs:List FileD):List FileD:=fs.filter fun f=>decide (numOf f.name≤m)
theorem num_le (s:ByteArray):numOf s≤1000000000:=by
 rcases Int.lt_or_le 0 (numOf s) with h | h
 ·exact (numOf_is h).2
 ·omega
theorem mem_keep {m:Int} {fs:List FileD} {f:FileD} : f ∈ keepTo m fs ↔ f ∈ fs∧numOf f.name≤m:=by unfold keepTo;rw [List.mem_filter,decide_eq_true_eq]
theorem row_keep {m:Int} {fs:List FileD} (h:Row fs):Row (keepTo m fs):=List.Pairwise.filter _ h
theorem keep_keep (a b:Int) (fs:List FileD):keepTo a (keepTo b fs)=keepTo (min a b) fs:=by
 unfold keepTo
 rw [List.filter_filter]
 refine List.filter_congr fun f _=>?_
 rw [Bool.eq_iff_iff]
 simp only [Bool.and_eq_true,decide_eq_true_eq]
 omega
theorem keep_self {m:Int} {fs:List FileD} (h:∀ f ∈ fs,numOf f.name≤m):keepTo m fs=fs:=List.filter_eq_self.2 fun f hf=>decide_eq_true (h f hf)
theorem nameV_in {n:Int} (h:1≤n∧n≤1000000000):nameV n=nameOf n:=by unfold nameV;rw [if_pos h]
theorem sans_keep {n:Int} {fs:List FileD} (hn:1≤n∧n≤1000000000) (h:∀ f ∈ fs,numOf f.name≤n):sans (nameOf n) fs=keepTo (n - 1) fs:=by
 unfold sans keepTo
 refine List.filter_congr fun f hf=>?_
 have h1:=h f hf
 rw [Bool.eq_iff_iff,decide_eq_true_eq,Bool.not_eq_true']
 constructor
 ·intro hs
  refine Int.le_sub_one_of_lt (Int.lt_iff_le_and_ne.2 ⟨h1,fun e=>?_⟩)
  have h2:=(numOf_is (s:=f.name) (by omega)).1
  rw [e] at h2
  rw [same_iff.2 h2] at hs;cases hs
 ·intro hl
  cases hs:sameName f.name (nameOf n) with
  |false=>rfl
  |true =>
   have h2:=same_iff.1 hs
   rw [h2,numOf_name (by omega) hn.2] at hl
   omega
structure Rem (a:Int) (d z:DiskD) (e:Int):Prop where
 f:∃ m,a≤m∧z.files=keepTo m d.files
 m:z.room=d.room
 ok:e=0→z.files=keepTo a d.files∧z.down=false∧(d.fuse = -1→z.fuse = -1)
 no:e≠0→e=9∧d.fuse ≠ -1
theorem remove_seg {d:DiskD} {n:Int} (hr:rightB d=true) (hd:d.down=false) (hn:n ∈ segs d):(d.fuse=0∧removeD d (nameV n)=(⟨d.files,d.room,d.fuse,true⟩,9)) ∨
  (d.fuse≠0∧removeD d (nameV n)=(⟨sans (nameOf n) d.files,d.room,if 0 < d.fuse then d.fuse - 1 else d.fuse,false⟩,0)):=by
 have hrng:=segs_rng d n hn
 obtain ⟨h0,f,hf,hfn⟩:=(segs_iff hr).1 hn
 have hnm:f.name=nameOf n:=by
  have:=(numOf_is (s:=f.name) (by omega)).1
  rwa [hfn] at this
 have hl:disk.look (nameOf n) d.files=some f:=by rw [← hnm];exact look_of (right_files hr).2.2.1 hf
 have h1:firstE d (nameOf n) (nameOf n)=0:=by rw [first_up hr hd,named_name];rfl
 have h2:noE d.files (nameOf n)=0:=by unfold noE;rw [hl];rfl
 rw [nameV_in hrng]
 unfold removeD opD
 rw [h1,h2,if_neg (by decide),if_neg (by decide)]
 by_cases hf0:d.fuse=0
 ·exact .inl ⟨hf0,by rw [if_pos hf0];rfl⟩
 ·exact .inr ⟨hf0,by rw [if_neg hf0,hd]⟩
theorem tw_filter {a:Int} : ∀ {m:List Int},m.Pairwise (fun x y=>y < x)→(m.takeWhile fun n=>decide (a < n))=m.filter fun n=>decide (a < n)
 | [],_=>rfl
 |x :: m,h=>by
  obtain ⟨h1,h2⟩:=List.pairwise_cons.1 h
  rw [List.takeWhile_cons,List.filter_cons]
  by_cases hx:a < x
  ·rw [if_pos (decide_eq_true hx),if_pos (decide_eq_true hx),tw_filter h2]
  ·rw [if_neg (by rw [decide_eq_true_eq];exact hx),if_neg (by rw [decide_eq_true_eq];exact hx)]
   exact (List.filter_eq_nil_iff.2 fun y hy=>by rw [decide_eq_true_eq];have:=h1 y hy;omega).symm
theorem above_filter {a:Int} {l:List Int} (h:l.Pairwise (· < ·)):aboveL a l=(l.filter fun n=>decide (a < n)).reverse:=by
 unfold aboveL
 rw [tw_filter (List.pairwise_reverse.2 h),List.filter_reverse]
theorem seg_le {d:DiskD} {m:Int} (hr:rightB d=true) (hm:0≤m) (h:∀ x ∈ segs d,x≤m):∀ f ∈ d.files,numOf f.name≤m:=fun f hf=>by
 rcases Int.lt_or_le 0 (numOf f.name) with h0 | h0
 ·exact h _ ((segs_iff hr).2 ⟨h0,f,hf,rfl⟩)
 ·omega
theorem rem_files:∀ (l:List Int) (a:Int) (d:DiskD),0≤a∧a≤1000000000→rightB d=true→d.down=false→l=((segs d).filter fun n=>decide (a < n)).reverse→Rem a d (remA d l).1 (remA d l).2
 | [],a,d,ha,hr,hd,hl=>by
  have h1:∀ x ∈ segs d,x≤a:=fun x hx=>by
   have h2:(segs d).filter (fun n=>decide (a < n))=[]:=by rw [← List.reverse_eq_nil_iff];exact hl.symm
   have:=List.filter_eq_nil_iff.1 h2 x hx
   rw [decide_eq_true_eq] at this;omega
  have h3:=(keep_self (seg_le hr ha.1 h1)).symm
  exact ⟨⟨a,Int.le_refl _,h3⟩,rfl,fun _=>⟨h3,hd,id⟩,fun h=>absurd rfl h⟩
 |n :: r,a,d,ha,hr,hd,hl=>by
  have hin:∀ x,x ∈ n :: r ↔ x ∈ segs d∧a < x:=fun x=>by rw [hl,List.mem_reverse,List.mem_filter,decide_eq_true_eq]
  have hp:(n :: r).Pairwise (fun x y=>y < x):=by rw [hl,List.pairwise_reverse];exact (segs_rise d).filter _
  obtain ⟨p1,p2⟩:=List.pairwise_cons.1 hp
  have hn:=(hin n).1 (by simp)
  have hrng:=segs_rng d n hn.1
  have hmax:∀ x ∈ segs d,x≤n:=fun x hx=>by
   by_cases hx2:a < x
   ·rcases List.mem_cons.1 ((hin x).2 ⟨hx,hx2⟩) with e | h
    ·omega
    ·have:=p1 x h;omega
   ·omega
  rw [remA]
  rcases remove_seg hr hd hn.1 with ⟨h0,e⟩ | ⟨h0,e⟩
  ·rw [e,if_neg (show ¬ (9:Int)=0 by decide)]
   exact ⟨⟨1000000000,ha.2,(keep_self fun f _=>num_le _).symm⟩,rfl,fun h=>absurd h (show ¬ (9:Int)=0 by decide),fun _=>⟨rfl,by omega⟩⟩
  ·have hr2:rightB (removeD d (nameV n)).1=true:=right_remove hr
   have hs2:=segs_remove hr hrng (by rw [e])
   rw [if_pos (by rw [e])]
   have hf2:(removeD d (nameV n)).1.files=keepTo (n - 1) d.files:=by
    rw [e];exact sans_keep hrng (seg_le hr (by omega) hmax)
   have hm2:(removeD d (nameV n)).1.room=d.room:=by rw [e]
   have hd2:(removeD d (nameV n)).1.down=false:=by rw [e]
   have hu2:d.fuse = -1→(removeD d (nameV n)).1.fuse = -1:=fun h=>by rw [e];show (if 0 < d.fuse then d.fuse - 1 else d.fuse) = -1;rw [if_neg (by omega)];exact h
   obtain ⟨x,hx⟩:∃ x,(removeD d (nameV n)).1=x:=⟨_,rfl⟩
   rw [hx] at hr2 hs2 hf2 hm2 hd2 hu2 ⊢
   have hu3:x.fuse ≠ -1→d.fuse ≠ -1:=fun h h2=>h (hu2 h2)
   have:=rem_files r a x ha hr2 hd2 (by
    refine (List.reverse_eq_iff.1 (rise_ext (List.pairwise_reverse.2 p2) ((segs_rise x).filter _) fun y=>?_))
    rw [List.mem_reverse,List.mem_filter,decide_eq_true_eq,hs2 y]
    constructor
    ·intro hy
     have h1:=(hin y).1 (List.mem_cons_of_mem _ hy);have h2:=p1 y hy
     exact ⟨⟨h1.1,by omega⟩,h1.2⟩
    ·rintro ⟨⟨h1,h2⟩,h3⟩
     rcases List.mem_cons.1 ((hin y).2 ⟨h1,h3⟩) with h | h
     ·exact absurd h h2
     ·exact h)
   obtain ⟨⟨m,g1,g2⟩,g3,g4,g5⟩:=this
   refine ⟨⟨min m (n - 1),by omega,by rw [g2,hf2,keep_keep]⟩,g3.trans hm2,fun h=>?_,fun h=>⟨(g5 h).1,hu3 (g5 h).2⟩⟩
   obtain ⟨k1,k2,k3⟩:=g4 h
   refine ⟨?_,k2,fun h=>k3 (hu2 h)⟩
   rw [k1,hf2,keep_keep,show min a (n - 1)=a by omega]
theorem removed_files {d:DiskD} {a:Int} (ha:0≤a∧a≤1000000000) (hr:rightB d=true) (hd:d.down=false):Rem a d (removedA d a).1 (removedA d a).2:=rem_files _ a d ha hr hd (above_filter (segs_rise d))
def heldF (fs:List FileD) (g:Int):List Nat:=match disk.look (nameV g) fs with
 |some f=>f.data
 |none=>[]
theorem held_f (t:DiskD) (g:Int):heldV t g=heldF t.files g:=rfl
def cutTo (g k:Int) (fs:List FileD):List FileD:=if k < ((heldF fs g).length:Int) then cutF fs (nameV g) k else fs
theorem held_some {fs:List FileD} {g k:Int} (hk:0≤k) (h:k < ((heldF fs g).length:Int)):∃ f,disk.look (nameV g) fs=some f∧oldOf (nameV g) fs=f∧f ∈ fs∧f.name=nameV g∧heldF fs g=f.data:=by
 rcases old_cases (nameV g) fs with ⟨h1,_⟩ | ⟨f,h1,h2,h3,h4⟩
 ·unfold heldF at h
  rw [h1] at h
  simp only [List.length_nil] at h;omega
 ·exact ⟨f,h1,h2,h3,h4,by unfold heldF;rw [h1]⟩
theorem cut_seg {d:DiskD} {g k:Int} (hr:rightB d=true) (hd:d.down=false) (hk:0≤k) (h:k < ((heldV d g).length:Int)):(d.fuse=0∧cutD d (nameV g) k=(⟨d.files,d.room,d.fuse,true⟩,9)) ∨
  (d.fuse≠0∧cutD d (nameV g) k=(⟨cutF d.files (nameV g) k,d.room,if 0 < d.fuse then d.fuse - 1 else d.fuse,false⟩,0)):=by
 rw [held_f] at h
 obtain ⟨f,h1,h2,h3,h4,h5⟩:=held_some hk h
 have hok:=(right_files hr).2.1 f h3
 have hnamed:named (nameV g)=true:=by
  rw [← h4]
  unfold fileOk at hok
  simp only [Bool.and_eq_true] at hok
  exact hok.1.1.1
 have e1:firstE d (nameV g) (nameV g)=0:=by rw [first_up hr hd,hnamed];rfl
 have e2:cutE d.files (nameV g) k=0:=by
  unfold cutE
  rw [h1,if_neg (by simp),h2,if_neg (by rw [h5] at h;omega)]
 unfold cutD opD
 rw [e1,e2,if_neg (by decide),if_neg (by decide)]
 by_cases hf0:d.fuse=0
 ·exact .inl ⟨hf0,by rw [if_pos hf0];rfl⟩
 ·exact .inr ⟨hf0,by rw [if_neg hf0,hd]⟩
structure Mnd (g k:Int) (d z:DiskD) (e:Int):Prop where
 f:(∃ m,g≤m∧z.files=keepTo m d.files)∨z.files=cutTo g k (keepTo g d.files)
 m:z.room=d.room
 ok:e=0→z.files=cutTo g k (keepTo g d.files)∧z.down=false∧(d.fuse = -1→z.fuse = -1)
 no:e≠0→e=9∧d.fuse ≠ -1
theorem mend_files {s:Wl} {t:DiskD} (hg:0≤s.g∧s.g≤1000000000) (hc:0≤s.c) (hr:rightB t=true) (hd:t.down=false):Mnd s.g (s.c * 72) t (mendL s t).1 (mendL s t).2:=by
 have hrem:=removed_files hg hr hd
 have hr2:rightB (removedA t s.g).1=true:=rem_right hr
 obtain ⟨f,m,ok,no⟩:=hrem
 by_cases h0:(removedA t s.g).2=0
 ·obtain ⟨f2,d2,u2⟩:=ok h0
  by_cases h1:s.c * 72 < ((heldV (removedA t s.g).1 s.g).length:Int)
  ·rw [m_cut h0 h1]
   have hcut:cutTo s.g (s.c * 72) (keepTo s.g t.files)=cutF (removedA t s.g).1.files (nameV s.g) (s.c * 72):=by
    rw [held_f,f2] at h1
    unfold cutTo
    rw [if_pos h1,f2]
   rcases cut_seg hr2 d2 (by omega) h1 with ⟨z0,e⟩ | ⟨z0,e⟩
   ·rw [e]
    exact ⟨.inl f,m,fun h=>absurd h (show ¬ (9:Int)=0 by decide),fun _=>⟨rfl,fun h=>by have:=u2 h;omega⟩⟩
   ·rw [e]
    exact ⟨.inr hcut.symm,m,fun _=>⟨hcut.symm,rfl,fun h=>by have:=u2 h;show (if _ then _ else _)=_;rw [if_neg (by omega)];exact this⟩,fun h=>absurd rfl h⟩
  ·rw [m_keep h1]
   have hcut:(removedA t s.g).1.files=cutTo s.g (s.c * 72) (keepTo s.g t.files):=by
    rw [held_f,f2] at h1
    unfold cutTo
    rw [if_neg h1,f2]
   exact ⟨.inl f,m,fun _=>⟨hcut,d2,u2⟩,no⟩
 ·rw [m_err h0]
  exact ⟨.inl f,m,fun h=>absurd h h0,no⟩
end Go.Proofs.YtalhdalinpdanaaGreatDoor.wal
end
section
namespace Go.Proofs.YtalhdalinpdanaaGreatDoor.wal
set_option maxRecDepth 20000
open Go.RowKit Go.Proofs.YtalhdalinpdanaaGreatDoor Go.Proofs.YtalhdalinpdanaaGreatDoor.frame Go.Proofs.YtalhdalinpdanaaGreatDoor.disk
theorem filt_nil {m:Int} {l:List Int} (h:∀ x ∈ l,m < x):l.filter (fun x=>decide (x≤m))=[]:=List.filter_eq_nil_iff.2 fun x hx=>by rw [decide_eq_true_eq];have:=h x hx;omega
theorem step_u {t:DiskD} {a:Int} {r:RdS} (h:(scanV t a r.ep).length≠0):(stepR t r a).u=a+((scanV t a r.ep).length:Int) - 1∧(stepR t r a).n=(stepR t r a).u+1∧(stepR t r a).g=a:=⟨scanV_lsn h,rfl,rfl⟩
end Go.Proofs.YtalhdalinpdanaaGreatDoor.wal
end
section
namespace Go.Proofs.YtalhdalinpdanaaGreatDoor.wal
set_option maxRecDepth 20000
open Go.RowKit Go.Proofs.YtalhdalinpdanaaGreatDoor Go.Proofs.YtalhdalinpdanaaGreatDoor.frame Go.Proofs.YtalhdalinpdanaaGreatDoor.disk
theorem held_zero {fs:List FileD} (h:∀ f ∈ fs,fileOk f=true):heldF fs 0=[]:=by
 unfold heldF
 rcases old_cases (nameV 0) fs with ⟨h1,_⟩ | ⟨f,h1,h2,h3,h4⟩
 ·rw [h1]
 ·have hok:=h f h3
  unfold fileOk at hok
  simp only [Bool.and_eq_true] at hok
  have:=hok.1.1.1
  rw [h4] at this
  exact absurd this (by decide)
theorem cut_zero0 {fs:List FileD} {c:Int} (hc:0≤c) (h:∀ f ∈ fs,fileOk f=true):cutTo 0 c fs=fs:=by
 unfold cutTo
 rw [held_zero h,if_neg (by simp only [List.length_nil];omega)]
theorem ok_keep {m:Int} {fs:List FileD} (h:∀ f ∈ fs,fileOk f=true):∀ f ∈ keepTo m fs,fileOk f=true:=fun f hf=>h f (mem_keep.1 hf).1
theorem keep_cut {fs:List FileD} {g k m:Int} (hr:Row fs) (hm:0≤m∧m < g) (hg:g≤1000000000):keepTo m (cutTo g k fs)=keepTo m fs:=by
 unfold cutTo
 split
 ·unfold cutF
  have hnm:=old_name (nameV g) fs
  have hng:numOf (nameV g)=g:=by rw [nameV_in (by omega),numOf_name (by omega) hg]
  refine Row.ext (row_keep (row_with _ hr)) (row_keep hr) fun f=>?_
  rw [mem_keep,mem_keep,mem_with hr]
  constructor
  ·rintro ⟨rfl | ⟨h1,h2⟩,h3⟩
   ·have h4:numOf (oldOf (nameV g) fs).name≤m:=h3
    rw [hnm,hng] at h4;omega
   ·exact ⟨h1,h3⟩
  ·rintro ⟨h1,h3⟩
   refine ⟨.inr ⟨h1,fun e=>?_⟩,h3⟩
   have h4:f.name=(oldOf (nameV g) fs).name:=e
   rw [h4,hnm,hng] at h3;omega
 ·rfl
theorem keep0 {fs:List FileD} {g c:Int} (hr:Row fs) (hok:∀ f ∈ fs,fileOk f=true) (hg:0≤g∧g≤1000000000) (hc:0≤c):keepTo 0 (cutTo g c (keepTo g fs))=keepTo 0 fs:=by
 rcases Int.lt_or_le 0 g with h | h
 ·rw [keep_cut (row_keep hr) ⟨Int.le_refl _,h⟩ hg.2,keep_keep,show min 0 g=0 by omega]
 ·obtain rfl:g=0:=by omega
  rw [cut_zero0 hc (ok_keep hok),keep_keep];rfl
def fin (t:DiskD) (b:Int):List FileD:=if isNew t b then keepTo 0 t.files else cutTo (readL t).g ((readL t).c * 72) (keepTo (readL t).g t.files)
structure Gon (b:Int) (t z:DiskD) (e:Int):Prop where
 f:(∃ m,(readL t).g≤m∧z.files=keepTo m t.files)∨(∃ m,0≤m∧(m=1000000000∨isNew t b)∧z.files=keepTo m (cutTo (readL t).g ((readL t).c * 72) (keepTo (readL t).g t.files)))
 m:z.room=t.room
 ok:e=0→z.files=fin t b∧z.down=false∧(t.fuse = -1→z.fuse = -1)
 no:e≠0→e=9∧t.fuse ≠ -1
 r:rightB z=true
theorem gone_files {t:DiskD} (b:Int) (hr:rightB t=true) (hd:t.down=false):Gon b t (goneL t b).1 (goneL t b).2:=by
 have hrg:=readL_rng t
 have hM:=mend_files (s:=wlOf (readL t)) hrg.g0 hrg.c0.1 hr hd
 have hr2:rightB (mendL (wlOf (readL t)) t).1=true:=mend_right hr
 unfold goneL
 obtain ⟨f,m,ok,no⟩:=hM
 by_cases h:isNew t b∧(mendL (wlOf (readL t)) t).2=0
 ·rw [if_pos h]
  obtain ⟨f2,d2,u2⟩:=ok h.2
  obtain ⟨⟨m3,g1,g2⟩,g3,g4,g5⟩:=removed_files (a:=0) ⟨Int.le_refl _,by decide⟩ hr2 d2
  refine ⟨.inr ⟨m3,g1,.inr h.1,by rw [g2,f2];rfl⟩,g3.trans m,fun he=>?_,fun he=>⟨(g5 he).1,fun hf=>(g5 he).2 (u2 hf)⟩,rem_right hr2⟩
  obtain ⟨k1,k2,k3⟩:=g4 he
  refine ⟨?_,k2,fun hf=>k3 (u2 hf)⟩
  rw [k1,f2]
  unfold fin
  rw [if_pos h.1]
  exact keep0 (right_files hr).2.2.1 (right_files hr).2.1 hrg.g0 (by show 0≤(readL t).c * 72;have:=hrg.c0;omega)
 ·rw [if_neg h]
  refine ⟨?_,m,fun he=>?_,no,hr2⟩
  ·rcases f with f | f
   ·exact .inl f
   ·exact .inr ⟨1000000000,by decide,.inl rfl,f.trans (keep_self fun f _=>num_le _).symm⟩
  ·obtain ⟨k1,k2,k3⟩:=ok he
   refine ⟨?_,k2,k3⟩
   rw [k1]
   unfold fin
   rw [if_neg (fun hn=>h ⟨hn,he⟩)]
   rfl
section
variable {t z:DiskD} {m:Int}
theorem segs_keep (hr:rightB t=true) (hz:rightB z=true) (h:z.files=keepTo m t.files):segs z=(segs t).filter fun x=>decide (x≤m):=by
 refine rise_ext (segs_rise z) ((segs_rise t).filter _) fun x=>?_
 rw [segs_iff hz,List.mem_filter,segs_iff hr,decide_eq_true_eq,h]
 constructor
 ·rintro ⟨h0,f,hf,rfl⟩
  have:=mem_keep.1 hf
  exact ⟨⟨h0,f,this.1,rfl⟩,this.2⟩
 ·rintro ⟨⟨h0,f,hf,rfl⟩,hm⟩
  exact ⟨h0,f,mem_keep.2 ⟨hf,hm⟩,rfl⟩
theorem seg_file {a:Int} (hr:rightB t=true) (ha:a ∈ segs t):∃ f ∈ t.files,f.name=nameV a∧numOf f.name=a∧disk.look (nameV a) t.files=some f:=by
 obtain ⟨h0,f,hf,hfn⟩:=(segs_iff hr).1 ha
 have hnm:f.name=nameV a:=by
  have:=(numOf_is (s:=f.name) (by omega)).1
  rw [hfn] at this
  rw [nameV_in (segs_rng t a ha)];exact this
 exact ⟨f,hf,hnm,hfn,by rw [← hnm];exact look_of (right_files hr).2.2.1 hf⟩
theorem held_keep {a:Int} (hr:rightB t=true) (h:z.files=keepTo m t.files) (ha:a ∈ segs t) (hm:a≤m):heldV z a=heldV t a:=by
 obtain ⟨f,hf,hn,hfn,hl⟩:=seg_file hr ha
 have h2:disk.look (nameV a) z.files=some f:=by
  rw [h,← hn]
  exact look_of (row_keep (right_files hr).2.2.1) (mem_keep.2 ⟨hf,by omega⟩)
 rw [held_f,held_f]
 unfold heldF
 rw [h2,hl]
theorem cut_held {fs:List FileD} {g k:Int} (hrow:Row fs) (hk:0≤k) (h:k < ((heldF fs g).length:Int)):heldF (cutF fs (nameV g) k) g=(heldF fs g).take k.toNat:=by
 obtain ⟨f,h1,h2,h3,h4,h5⟩:=held_some hk h
 have hl:=look_with { oldOf (nameV g) fs with data:=(oldOf (nameV g) fs).data.take k.toNat,sure:=if k < (oldOf (nameV g) fs).sure then k else (oldOf (nameV g) fs).sure } hrow
 have hn:({ oldOf (nameV g) fs with data:=(oldOf (nameV g) fs).data.take k.toNat,sure:=if k < (oldOf (nameV g) fs).sure then k else (oldOf (nameV g) fs).sure } : FileD).name=nameV g:=old_name _ _
 rw [hn] at hl
 unfold heldF cutF
 rw [hl,h1]
 show (oldOf (nameV g) fs).data.take k.toNat=f.data.take k.toNat
 rw [h2]
end
end Go.Proofs.YtalhdalinpdanaaGreatDoor.wal
end
section
namespace Go.Proofs.YtalhdalinpdanaaGreatDoor.wal
set_option maxRecDepth 20000
open Go.RowKit Go.Proofs.YtalhdalinpdanaaGreatDoor Go.Proofs.YtalhdalinpdanaaGreatDoor.frame Go.Proofs.YtalhdalinpdanaaGreatDoor.disk
def newW (t:DiskD) (b:Int):Wl:=if isNew t b then ⟨1,b+1,b,0,0,[]⟩ else wlOf (readL t)
theorem open_plain {t:DiskD} {b:Int} (hp:Plain t) (ho:opensL t b=0) (he:isNew t b∨(readL t).e≤1000000):openL t b=(newW t b,⟨fin t b,t.room, -1,false⟩,keepD (b+1) (readL t).all,0):=by
 obtain ⟨_,m,ok,no,r⟩:=gone_files b hp.1 hp.2.1
 have h0:(goneL t b).2=0:=by
  by_cases h:(goneL t b).2=0
  ·exact h
  ·exact absurd hp.2.2 (no h).2
 obtain ⟨f2,d2,u2⟩:=ok h0
 have e1:(goneL t b).1=⟨fin t b,t.room, -1,false⟩:=by
  have:=u2 hp.2.2
  rcases hg:(goneL t b).1 with ⟨a1,a2,a3,a4⟩
  rw [hg] at m f2 d2 this
  simp only at m f2 d2 this
  rw [m,f2,d2,this]
 unfold openL newW
 rw [if_neg (by rw [ho];simp),if_neg (fun h=>he.elim h.1 (fun h2=>by have h3:1000000 < (readL t).e:=h.2;omega)),if_neg (by rw [h0];simp),e1]
section
variable {t z:DiskD} {b:Int}
end
end Go.Proofs.YtalhdalinpdanaaGreatDoor.wal
end
section
namespace Go.Proofs.YtalhdalinpdanaaGreatDoor.wal
set_option maxRecDepth 20000
open Go.RowKit Go.Proofs.YtalhdalinpdanaaGreatDoor Go.Proofs.YtalhdalinpdanaaGreatDoor.frame Go.Proofs.YtalhdalinpdanaaGreatDoor.disk
def Sures (fs:List FileD):Prop := ∀ f ∈ fs,(f.data.length:Int)=f.sure
theorem sures_keep {m:Int} {fs:List FileD} (h:Sures fs):Sures (keepTo m fs):=fun f hf=>h f (mem_keep.1 hf).1
theorem sures_cutTo {g k:Int} {fs:List FileD} (hr:Row fs) (hk:0≤k) (h:Sures fs):Sures (cutTo g k fs):=by
 unfold cutTo
 split
 ·rename_i hlt
  obtain ⟨f,h1,h2,h3,h4,h5⟩:=held_some hk hlt
  intro x hx
  unfold cutF at hx
  rcases (mem_with hr).1 hx with rfl | ⟨hx,_⟩
  ·have h6:=h f h3
   rw [h5] at hlt
   show ((((oldOf (nameV g) fs).data.take k.toNat).length:Nat):Int)=if k < (oldOf (nameV g) fs).sure then k else (oldOf (nameV g) fs).sure
   rw [h2,List.length_take,if_pos (by omega)];omega
  ·exact h x hx
 ·exact h
theorem cut_nums {g k x:Int} {fs:List FileD} (hr:Row fs) (hk:0≤k):(∃ f ∈ cutTo g k fs,numOf f.name=x) ↔ ∃ f ∈ fs,numOf f.name=x:=by
 unfold cutTo
 split
 ·rename_i hlt
  obtain ⟨f,h1,h2,h3,h4,h5⟩:=held_some hk hlt
  unfold cutF
  constructor
  ·rintro ⟨y,hy,rfl⟩
   rcases (mem_with hr).1 hy with rfl | ⟨hy,_⟩
   ·exact ⟨f,h3,by rw [h2]⟩
   ·exact ⟨y,hy,rfl⟩
  ·rintro ⟨y,hy,rfl⟩
   by_cases hn:y.name=(oldOf (nameV g) fs).name
   ·exact ⟨_,(mem_with hr).2 (.inl rfl),by show numOf (oldOf (nameV g) fs).name=_;rw [hn]⟩
   ·exact ⟨y,(mem_with hr).2 (.inr ⟨hy,hn⟩),rfl⟩
 ·exact Iff.rfl
section
variable {t z:DiskD} {b m:Int}
abbrev cutG (t:DiskD):List FileD:=cutTo (readL t).g ((readL t).c * 72) (keepTo (readL t).g t.files)
theorem c72 (t:DiskD):0≤(readL t).c * 72:=by have:=(readL_rng t).c0;omega
theorem opens_zero (hr:rightB t=true) (hd:t.down=false) (hb:0≤b∧b < 1000000000) (hs:0 < (segs t).length→(segs t).getD 0 0≤b+1):opensL t b=0:=by
 unfold opensL
 rw [if_neg (by rw [hr];simp;omega),if_neg (by rw [hd];decide),if_neg]
 intro h
 rw [Bool.and_eq_true,decide_eq_true_eq,decide_eq_true_eq] at h
 have:=hs (by omega);omega
theorem opens_head (h:opensL t b=0) (hl:0 < (segs t).length):(segs t).getD 0 0≤b+1:=by
 refine Int.not_lt.1 fun hlt=>?_
 unfold opensL at h
 split at h
 ·cases h
 ·split at h
  ·cases h
  ·split at h
   ·cases h
   ·rename_i h3
    apply h3
    rw [Bool.and_eq_true,decide_eq_true_eq,decide_eq_true_eq]
    exact ⟨by omega,hlt⟩
theorem head_filter {l:List Int} (hp:l.Pairwise (· < ·)) (h:0 < (l.filter fun x=>decide (x≤m)).length):0 < l.length∧(l.filter fun x=>decide (x≤m)).getD 0 0=l.getD 0 0:=by
 cases l with
 |nil=>simp at h
 |cons a l =>
  obtain ⟨p1,p2⟩:=List.pairwise_cons.1 hp
  by_cases ha:a≤m
  ·rw [List.filter_cons_of_pos (by simpa using ha)];exact ⟨by simp,rfl⟩
  ·have hall:∀ x ∈ a :: l,m < x:=fun x hx=>by
    rcases List.mem_cons.1 hx with rfl | hx
    ·omega
    ·have:=p1 x hx;omega
   rw [filt_nil hall] at h
   simp at h
theorem head_ok (hz:∀ x,x ∈ segs z ↔ x ∈ segs t∧x≤m) (h:opensL t b=0) (hl:0 < (segs z).length):(segs z).getD 0 0≤b+1:=by
 have e:segs z=(segs t).filter fun x=>decide (x≤m):=rise_ext (segs_rise z) ((segs_rise t).filter _) fun x=>by rw [hz,List.mem_filter,decide_eq_true_eq]
 rw [e] at hl ⊢
 obtain ⟨h1,h2⟩:=head_filter (segs_rise t) hl
 rw [h2];exact opens_head h h1
theorem segs_mid2 (hr:rightB t=true) (hz:rightB z=true) (h:z.files=keepTo m (cutG t)) (x:Int):x ∈ segs z ↔ x ∈ segs t∧x≤min m (readL t).g:=by
 have hrow:=(right_files hr).2.2.1
 rw [segs_iff hz,segs_iff hr,h]
 have hc:=cut_nums (g:=(readL t).g) (k:=(readL t).c * 72) (x:=x) (row_keep (m:=(readL t).g) hrow) (c72 t)
 constructor
 ·rintro ⟨h0,f,hf,rfl⟩
  obtain ⟨hf1,hf2⟩:=mem_keep.1 hf
  obtain ⟨y,hy,e⟩:=hc.1 ⟨f,hf1,rfl⟩
  obtain ⟨hy1,hy2⟩:=mem_keep.1 hy
  exact ⟨⟨h0,y,hy1,e⟩,by omega⟩
 ·rintro ⟨⟨h0,y,hy,rfl⟩,hm⟩
  obtain ⟨f,hf,e⟩:=hc.2 ⟨y,mem_keep.2 ⟨hy,by omega⟩,rfl⟩
  exact ⟨h0,f,mem_keep.2 ⟨hf,by omega⟩,e⟩
structure RdGood (r:RdS):Prop where
 e:1≤r.e
 c:1≤r.c
 n:r.n=r.u+1
 g:r.g+r.c=r.u+1
theorem step_good {r:RdS} {a:Int} (h:(scanV t a r.ep).length≠0):RdGood (stepR t r a):=by
 have h1:=scan_rng t a r.ep (by omega)
 obtain ⟨u1,u2,u3⟩:=step_u h
 refine ⟨by show 1≤_+(1:Int);omega,by show (1:Int)≤((scanV t a r.ep).length:Int);omega,u2,?_⟩
 rw [u1,u3]
 show a+((scanV t a r.ep).length:Int)=_
 omega
theorem g_good:∀ (l:List Int) (r:RdS),(r.g=0∨RdGood r)→(readG t l r).g=0∨RdGood (readG t l r)
 | [],r,h=>h
 |a :: l,r,h=>by
  rw [readG]
  split
  ·exact h
  ·split
   ·exact h
   ·rename_i hz
    split
    ·exact .inr (step_good hz)
    ·exact g_good l _ (.inr (step_good hz))
theorem right_none {e n u g c:Int} (h1:1≤e∧e≤1000000∧1≤n∧n≤1000000001∧0≤u∧u≤n - 1∧n - u - 1=0) (h2:(g=0∧c=0)∨(1≤g∧g≤1000000001∧1≤c∧c≤8∧g+c=u+1)):right ⟨e,n,u,g,c,[]⟩=true:=by
 unfold right
 rw [decide_eq_true (show _ from ?_),decide_eq_true h2]
 ·rfl
 ·simp only [List.length_nil];omega
theorem new_right (hb:0≤b∧b < 1000000000) (he:isNew t b∨(readL t).e≤1000000):right (newW t b)=true:=by
 unfold newW
 split
 ·exact right_none (by omega) (by omega)
 ·rename_i hn
  have hrg:=readL_rng t
  have he2:=he.resolve_left hn
  have hg:(readL t).g≠0:=fun h=>hn (.inl h)
  obtain ⟨g1,g2,g3,g4⟩:=(g_good (t:=t) (segs t) rdz (.inl rfl)).resolve_left hg
  have e1:(1:Int)≤(readL t).e:=g1
  have e2:(1:Int)≤(readL t).c:=g2
  have e3:(readL t).n=(readL t).u+1:=g3
  have e4:(readL t).g+(readL t).c=(readL t).u+1:=g4
  obtain ⟨_,q2,q3,q4,q5⟩:=hrg
  exact right_none (by omega) (by omega)
end
end Go.Proofs.YtalhdalinpdanaaGreatDoor.wal
end
section
namespace Go.Proofs.YtalhdalinpdanaaGreatDoor.wal
set_option maxRecDepth 20000
open Go.RowKit Go.Proofs.YtalhdalinpdanaaGreatDoor Go.Proofs.YtalhdalinpdanaaGreatDoor.frame Go.Proofs.YtalhdalinpdanaaGreatDoor.disk
def many (n:Nat):Nat:=(n+7) / 8
def segN (j:Nat):Int:=((8 * j+1:Nat):Int)
def sgL (n:Nat):List Int:=(List.range (many n)).map segN
def chunk (F:List FrameD) (j:Nat):List FrameD:=(F.drop (8 * j)).take 8
theorem sgL_len (n:Nat):(sgL n).length=many n:=by simp [sgL]
theorem sgL_get {n j:Nat} (h:j < many n):(sgL n)[j]?=some (segN j):=by
 unfold sgL
 rw [List.getElem?_map,List.getElem?_range h];rfl
theorem sgL_drop {n j:Nat} (h:j < many n):(sgL n).drop j=segN j :: (sgL n).drop (j+1):=by
 have hl:j < (sgL n).length:=by rw [sgL_len];exact h
 rw [List.drop_eq_getElem_cons hl]
 have:=sgL_get h
 rw [List.getElem?_eq_getElem hl] at this
 rw [Option.some.inj this]
theorem sgL_mem {n i:Nat} {x:Int} : x ∈ (sgL n).drop i ↔ ∃ j,i≤j∧j < many n∧x=segN j:=by
 constructor
 ·intro h
  obtain ⟨k,hk⟩:=List.getElem?_of_mem h
  rw [List.getElem?_drop] at hk
  have hlt:i+k < many n:=by
   rcases Nat.lt_or_ge (i+k) (many n) with h1 | h1
   ·exact h1
   ·rw [List.getElem?_eq_none (by rw [sgL_len];exact h1)] at hk;cases hk
  rw [sgL_get hlt] at hk
  exact ⟨i+k,Nat.le_add_right _ _,hlt,(Option.some.inj hk).symm⟩
 ·rintro ⟨j,h1,h2,rfl⟩
  refine List.mem_of_getElem? (i:=j - i) ?_
  rw [List.getElem?_drop,show i+(j - i)=j by omega]
  exact sgL_get h2
theorem sgL_rise (n i:Nat):((sgL n).drop i).Pairwise (· < ·):=by
 refine List.Pairwise.sublist (List.drop_sublist _ _) ?_
 unfold sgL
 rw [List.pairwise_map]
 refine List.Pairwise.imp (fun {a b} h=>?_) (List.pairwise_lt_range)
 show segN a < segN b
 unfold segN;omega
structure Can (i:Nat) (F:List FrameD) (d:DiskD):Prop where
 r:rightB d=true
 sg:segs d=(sgL F.length).drop i
 h:∀ j,i≤j→j < many F.length→heldV d (segN j)=scan.put (chunk F j)
structure Fok (F:List FrameD):Prop where
 row:scan.row F 1 1=true
 fine:∀ f ∈ F,f.fine
theorem row_low {l:List FrameD} {n e e' : Int} (h:scan.row l n e=true) (he:e'≤e):scan.row l n e'=true:=by
 cases l with
 |nil=>rfl
 |cons f l =>
  obtain ⟨h1,h2,h3,h4⟩:=(scan.row_cons _ _ _ _).1 h
  exact (scan.row_cons _ _ _ _).2 ⟨h1,h2,Int.le_trans he h3,h4⟩
theorem last_ge:∀ (l:List FrameD) (n e:Int),scan.row l n e=true→e≤scan.last l e
 | [],_,e,_=>Int.le_refl e
 |f :: l,n,e,h=>by
  obtain ⟨h1,h2,h3,h4⟩:=(scan.row_cons _ _ _ _).1 h
  rw [scan.last_cons]
  exact Int.le_trans h3 (last_ge l _ _ h4)
theorem frow_at:∀ (l:List FrameD) (n e:Int) (k:Nat) (f:FrameD),scan.row l n e=true→l[k]?=some f→f.l=n+(k:Int)∧frame.right f=true
 | [],_,_,k,f,_,h=>by simp at h
 |g :: l,n,e,0,f,hr,h=>by
  obtain ⟨h1,h2,h3,h4⟩:=(scan.row_cons _ _ _ _).1 hr
  simp only [List.getElem?_cons_zero,Option.some.injEq] at h
  subst h
  exact ⟨by rw [h2];simp,h1⟩
 |g :: l,n,e,k+1,f,hr,h=>by
  obtain ⟨h1,h2,h3,h4⟩:=(scan.row_cons _ _ _ _).1 hr
  simp only [List.getElem?_cons_succ] at h
  have:=frow_at l _ _ k f h4 h
  exact ⟨by rw [this.1];push_cast;omega,this.2⟩
section
variable {F:List FrameD} {d:DiskD} {i j:Nat} {ep:Int}
theorem many_lt (h:j < many F.length):8 * j < F.length:=by unfold many at h;omega
theorem chunk_len (F:List FrameD) (j:Nat):(chunk F j).length=min 8 (F.length - 8 * j):=by unfold chunk;rw [List.length_take,List.length_drop]
theorem chunk_app (F:List FrameD) (j:Nat):F.drop (8 * j)=chunk F j++F.drop (8 * (j+1)):=by
 unfold chunk
 rw [show 8 * (j+1)=8 * j+8 by omega,← List.drop_drop,List.take_append_drop]
theorem chunk_fine (hF:Fok F):∀ f ∈ chunk F j,f.fine:=fun f hf=>hF.fine f (List.mem_of_mem_drop (List.mem_of_mem_take hf))
theorem chunk_row (h:scan.row (F.drop (8 * j)) (segN j) ep=true):scan.row (chunk F j) (segN j) ep=true∧(8 * (j+1)≤F.length→scan.row (F.drop (8 * (j+1))) (segN (j+1)) (scan.last (chunk F j) ep)=true):=by
 rw [chunk_app,scan.row_append,Bool.and_eq_true] at h
 refine ⟨h.1,fun h8=>?_⟩
 have hl:=chunk_len F j
 have e:segN j+((chunk F j).length:Int)=segN (j+1):=by rw [hl];unfold segN;omega
 rw [e] at h
 exact h.2
theorem fok_drop (hF:Fok F) (j:Nat) (hj:8 * j≤F.length):scan.row (F.drop (8 * j)) (segN j) 1=true:=by
 have h:=hF.row
 rw [← List.take_append_drop (8 * j) F,scan.row_append,Bool.and_eq_true] at h
 have e:(1:Int)+((F.take (8 * j)).length:Int)=segN j:=by rw [List.length_take];unfold segN;omega
 rw [e] at h
 exact row_low h.2 (last_ge _ _ _ h.1)
theorem put_small (hF:Fok F) (j:Nat):(scan.put (chunk F j)).take 576=scan.put (chunk F j):=List.take_of_length_le (by rw [scan.put_len,chunk_len];omega)
theorem scan_chunk (hC:Can i F d) (hF:Fok F) (hi:i≤j) (hj:j < many F.length) (hr:scan.row (F.drop (8 * j)) (segN j) ep=true):scanV d (segN j) ep=chunk F j:=by
 unfold scanV
 rw [hC.h j hi hj,put_small hF]
 have:=scan.all_puts (chunk F j) [] (segN j) ep (chunk_fine hF) (chunk_row hr).1
 rw [List.append_nil,scan.all_short (b:=[]) (by decide),List.append_nil] at this
 exact this
theorem last_getD {l:List FrameD} {e:Int} (h:l≠[]):scan.last l e=(l.getD (l.length - 1) frz).e:=by
 refine scan.last_get l _ e ?_
 rw [List.getLast?_eq_getElem?,List.getD_eq_getElem?_getD]
 have:l.length - 1 < l.length:=by have:=List.length_pos_iff.2 h;omega
 rw [List.getElem?_eq_getElem this];rfl
theorem chunk_at (F:List FrameD) (j k:Nat) (hk:k < 8):(chunk F j).getD k frz=F.getD (8 * j+k) frz:=by
 unfold chunk
 rw [List.getD_eq_getElem?_getD,List.getD_eq_getElem?_getD,List.getElem?_take_of_lt hk,List.getElem?_drop]
def endR (F:List FrameD) (all:List FrameD):RdS:=⟨(F.getD (F.length - 1) frz).e+1,(F.length:Int)+1,(F.length:Int),segN (many F.length - 1),((F.length - 8 * (many F.length - 1):Nat):Int),(F.getD (F.length - 1) frz).e,all⟩
theorem look_with_other {nm b:ByteArray} {bs:List Nat} (hp:Plain d) (hne:b≠nm):disk.look b (addF d.files nm bs)=disk.look b d.files:=by
 have hr:=plain_row hp
 cases h:disk.look b d.files with
 |some f =>
  obtain ⟨h1,h2⟩:=look_some h
  rw [← h2]
  exact look_of (row_with _ hr) ((mem_add hp).2 (.inr ⟨h1,by rw [h2];exact hne⟩))
 |none =>
  refine look_no fun g hg e=>?_
  rcases (mem_add hp).1 hg with rfl | ⟨hg,_⟩
  ·exact hne e.symm
  ·exact look_none h g hg e
theorem can_files {x:DiskD} (hC:Can i F d) (hx:rightB x=true) (hf:x.files=d.files):Can i F x:=by
 refine ⟨hx,rise_ext (segs_rise x) (sgL_rise _ _) fun y=>?_,fun j h1 h2=>?_⟩
 ·rw [← hC.sg,segs_iff hx,segs_iff hC.r,hf]
 ·rw [← hC.h j h1 h2,held_f,held_f,hf]
theorem can_add {B:List FrameD} (hp:Plain d) (hC:Can 0 F d) (hB:B≠[]) (hl:B.length≤8 - F.length % 8) (hn:F.length+B.length≤1000000000) (hx:Plain (addD d (nameOf (segN (F.length / 8))) (scan.put B))):Can 0 (F++B) (addD d (nameOf (segN (F.length / 8))) (scan.put B)):=by
 have hbp:1≤B.length:=List.length_pos_iff.2 hB
 have hlen:(F++B).length=F.length+B.length:=List.length_append
 have hgb:1≤segN (F.length / 8)∧segN (F.length / 8)≤1000000000:=by unfold segN;omega
 have hmany:many (F++B).length=F.length / 8+1:=by rw [hlen];unfold many;omega
 have hold:(oldOf (nameOf (segN (F.length / 8))) d.files).data=scan.put (chunk F (F.length / 8)):=by
  rw [← held_look hgb]
  rcases Nat.lt_or_ge (F.length / 8) (many F.length) with h | h
  ·exact hC.h _ (Nat.zero_le _) h
  ·have e:chunk F (F.length / 8)=[]:=List.eq_nil_of_length_eq_zero (by rw [chunk_len];unfold many at h;omega)
   rw [e,held_look hgb]
   rcases old_cases (nameOf (segN (F.length / 8))) d.files with ⟨_,e2⟩ | ⟨f,e2,_,hm,hnm⟩
   ·rw [e2];rfl
   ·have h2:segN (F.length / 8) ∈ segs d:=(segs_iff hC.r).2 ⟨by omega,f,hm,by rw [hnm,numOf_name (by omega) hgb.2]⟩
    rw [hC.sg,sgL_mem] at h2
    obtain ⟨j,_,h3,h4⟩:=h2
    unfold segN at h4;unfold many at h h3;omega
 refine ⟨hx.1,rise_ext (segs_rise _) (sgL_rise _ _) fun y=>?_,fun j _ hj=>?_⟩
 ·rw [segs_iff hx.1,sgL_mem,hmany]
  constructor
  ·rintro ⟨h0,f,hm,rfl⟩
   rcases (mem_add hp).1 hm with rfl | ⟨hm,_⟩
   ·exact ⟨F.length / 8,Nat.zero_le _,Nat.lt_succ_self _,by show numOf (nameOf (segN (F.length / 8)))=_;rw [numOf_name (by omega) hgb.2]⟩
   ·have:numOf f.name ∈ segs d:=(segs_iff hC.r).2 ⟨h0,f,hm,rfl⟩
    rw [hC.sg,sgL_mem] at this
    obtain ⟨j,h1,h2,h3⟩:=this
    exact ⟨j,h1,by unfold many at h2;omega,h3⟩
  ·rintro ⟨j,h1,h2,rfl⟩
   refine ⟨by unfold segN;omega,?_⟩
   by_cases hj:j=F.length / 8
   ·subst hj
    exact ⟨_,(mem_add hp).2 (.inl rfl),by show numOf (nameOf (segN (F.length / 8)))=_;rw [numOf_name (by omega) hgb.2]⟩
   ·have hjm:j < many F.length:=by unfold many;omega
    have:segN j ∈ segs d:=by rw [hC.sg];exact sgL_mem.2 ⟨j,h1,hjm,rfl⟩
    obtain ⟨h0,f,hm,hnm⟩:=(segs_iff hC.r).1 this
    refine ⟨f,(mem_add hp).2 (.inr ⟨hm,fun e=>?_⟩),hnm⟩
    rw [e,numOf_name (by omega) hgb.2] at hnm
    unfold segN at hnm;omega
 ·rw [hmany] at hj
  have hbj:1≤segN j∧segN j≤1000000000:=by unfold segN;omega
  by_cases e:j=F.length / 8
  ·subst e
   rw [held_look hbj]
   show (oldOf (nameOf (segN (F.length / 8))) (addF d.files (nameOf (segN (F.length / 8))) (scan.put B))).data=_
   rw [old_add hp]
   show (oldOf (nameOf (segN (F.length / 8))) d.files).data++scan.put B=_
   rw [hold,← scan.put_append]
   congr 1
   unfold chunk
   rw [List.drop_append_of_le_length (by omega),List.take_of_length_le (by rw [List.length_drop];omega),List.take_of_length_le (by rw [List.length_append,List.length_drop];omega)]
  ·have hjm:j < many F.length:=by unfold many;omega
   have hne:nameV (segN j)≠nameOf (segN (F.length / 8)):=by
    rw [nameV_in hbj]
    intro e2
    have:=name_inj (by omega) (by omega) e2
    unfold segN at this;omega
   have e2:heldV (addD d (nameOf (segN (F.length / 8))) (scan.put B)) (segN j)=heldV d (segN j):=by
    rw [held_f,held_f]
    unfold heldF
    have:disk.look (nameV (segN j)) (addF d.files (nameOf (segN (F.length / 8))) (scan.put B))=disk.look (nameV (segN j)) d.files:=look_with_other hp hne
    show (match disk.look (nameV (segN j)) (addF d.files (nameOf (segN (F.length / 8))) (scan.put B)) with | some f=>f.data | none=>[])=_
    rw [this] <;> rfl
   rw [e2,hC.h j (Nat.zero_le _) hjm]
   congr 1
   unfold chunk
   have h8:8 * j+8≤F.length:=by omega
   rw [List.drop_append_of_le_length (by omega),List.take_append_of_le_length (by rw [List.length_drop];omega)]
end
end Go.Proofs.YtalhdalinpdanaaGreatDoor.wal
end
