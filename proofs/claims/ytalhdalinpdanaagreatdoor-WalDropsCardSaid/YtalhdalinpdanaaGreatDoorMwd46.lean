/-
  WalQ, WalRo, WalGo, WalOi, WalA1
-/
import Derived.Test.YtalhdalinpdanaaGreatDoorMwd41
import Derived.Test.YtalhdalinpdanaaGreatDoorMwd45
import Derived.Test.YtalhdalinpdanaaGreatDoorMwd36
set_option linter.unusedVariables false
set_option linter.unusedSimpArgs false
section
namespace Go.Proofs.YtalhdalinpdanaaGreatDoor.wal
set_option maxRecDepth 20000
open Go.RowKit Go.Proofs.YtalhdalinpdanaaGreatDoor Go.Proofs.YtalhdalinpdanaaGreatDoor.frame Go.Proofs.YtalhdalinpdanaaGreatDoor.disk
theorem rise_ext:∀ {l m:List Int},l.Pairwise (· < ·)→m.Pairwise (· < ·)→(∀ x,x ∈ l ↔ x ∈ m)→l=m
 | [],[],_,_,_=>rfl
 | [],b :: m,_,_,h=>absurd ((h b).2 (by simp)) (by simp)
 |a :: l,[],_,_,h=>absurd ((h a).1 (by simp)) (by simp)
 |a :: l,b :: m,h1,h2,h=>by
  obtain ⟨a1,a2⟩:=List.pairwise_cons.1 h1
  obtain ⟨b1,b2⟩:=List.pairwise_cons.1 h2
  have hab:a=b:=by
   rcases List.mem_cons.1 ((h a).1 (by simp)) with e | ha
   ·exact e
   ·rcases List.mem_cons.1 ((h b).2 (by simp)) with e | hb
    ·exact e.symm
    ·have:=b1 a ha;have:=a1 b hb;omega
  subst hab
  rw [rise_ext a2 b2 fun x=>?_]
  constructor
  ·intro hx
   rcases List.mem_cons.1 ((h x).1 (List.mem_cons_of_mem _ hx)) with e | hx'
   ·have:=a1 x hx;omega
   ·exact hx'
  ·intro hx
   rcases List.mem_cons.1 ((h x).2 (List.mem_cons_of_mem _ hx)) with e | hx'
   ·have:=b1 x hx;omega
   ·exact hx'
theorem rem_ok {d:DiskD} {nm:ByteArray} (h:(removeD d nm).2=0):(removeD d nm).1.files=sans nm d.files:=by
 unfold removeD at h ⊢
 rcases op_cases d nm nm (noE d.files nm) (sans nm d.files) false with ⟨h1,e⟩ | ⟨_,h1,e⟩ | ⟨_,_,_,e⟩ | ⟨_,_,_,e⟩<;>rw [e] at h ⊢
 ·exact absurd h h1
 ·exact absurd h h1
 ·exact absurd h (by show ¬ ((9:Int)=0);decide)
theorem mem_sans {nm:ByteArray} {fs:List FileD} {f:FileD} : f ∈ sans nm fs ↔ f ∈ fs∧f.name≠nm:=by
 unfold sans
 rw [List.mem_filter]
 constructor
 ·rintro ⟨h1,h2⟩;exact ⟨h1,fun e=>by rw [same_iff.2 e] at h2;cases h2⟩
 ·rintro ⟨h1,h2⟩
  refine ⟨h1,?_⟩
  cases hs:sameName f.name nm with
  |false=>rfl
  |true=>exact absurd (same_iff.1 hs) h2
theorem segs_remove {d:DiskD} {n:Int} (hr:rightB d=true) (hn:1≤n∧n≤1000000000) (h:(removeD d (nameV n)).2=0) (x:Int):x ∈ segs (removeD d (nameV n)).1 ↔ x ∈ segs d∧x≠n:=by
 have e:nameV n=nameOf n:=by unfold nameV;rw [if_pos hn]
 rw [segs_iff (right_remove hr),segs_iff hr,rem_ok h,e]
 constructor
 ·rintro ⟨h0,f,hf,rfl⟩
  obtain ⟨h1,h2⟩:=mem_sans.1 hf
  refine ⟨⟨h0,f,h1,rfl⟩,fun e2=>h2 ?_⟩
  have:=(numOf_is h0).1
  rw [this,e2]
 ·rintro ⟨⟨h0,f,hf,rfl⟩,h2⟩
  refine ⟨h0,f,mem_sans.2 ⟨hf,fun e2=>h2 ?_⟩,rfl⟩
  rw [e2,numOf_name (by omega) hn.2]
section
variable {t:DiskD} {q:List FrameD × Nat × Nat × Bool} {no:Bool} {l:List Int}
end
end Go.Proofs.YtalhdalinpdanaaGreatDoor.wal
end
section
namespace Go.Proofs.YtalhdalinpdanaaGreatDoor.wal
open Go.RowKit Go.Proofs.YtalhdalinpdanaaGreatDoor Go.Proofs.YtalhdalinpdanaaGreatDoor.frame Go.Proofs.YtalhdalinpdanaaGreatDoor.disk
set_option maxRecDepth 20000
section
variable {t:DiskD} {b z:Int} {i k:Nat} {nb:Bool}
section
variable {D D1:DiskD} {e:Int} {left left' : Nat}
end
section
variable {D:DiskD} {e:Int} {left:Nat}
end
end
section
variable {w0 W:World} {D:List Fact} {S:Nat→Prop} {u:Dv} {t:DiskD}
end
end Go.Proofs.YtalhdalinpdanaaGreatDoor.wal
end
section
namespace Go.Proofs.YtalhdalinpdanaaGreatDoor.wal
set_option maxRecDepth 20000
open Go.RowKit Go.Proofs.YtalhdalinpdanaaGreatDoor Go.Proofs.YtalhdalinpdanaaGreatDoor.frame Go.Proofs.YtalhdalinpdanaaGreatDoor.disk
abbrev RO (r:Wl × DiskD × List FrameD × Int):World→(Nat→Prop)→Dv × (Option Addr × Nat)→Prop:=fun w S b=>InD w S b.1 r.2.1∧Elems rdFrame 9 w S b.2.1 r.2.2.1∧r.2.2.1.length≤b.2.2∧b.2.2≤maxLen
theorem keeps_o (r:Wl × DiskD × List FrameD × Int):Keeps3 (RO r):=fun w w' S S' b h ha hs=>⟨h.1.keep ha.alike hs,h.2.1.keep keeps_frame ha.alike hs,h.2.2⟩
theorem nil_j {w:World} {S:Nat→Prop} {e n u g c:Int} (h:inI e∧inI n∧inI u∧inI g∧inI c):InJ w S ⟨none,0⟩ ⟨e,n,u,g,c,[]⟩ :=
 ⟨fun hk=>absurd hk (Nat.lt_irrefl 0),Nat.le_refl _,Nat.zero_le _,h.1,h.2.1,h.2.2.1,h.2.2.2.1,h.2.2.2.2⟩
section
variable {w0 W:World} {D:List Fact} {S:Nat→Prop} {u:Dv} {t:DiskD}
theorem g_wopen {b:Int} {r:Wl × DiskD × List FrameD × Int} (e:openL t b=r) (hF:Fixed w0 D S W) (hd:∀ w,Below w0.heap.size w0 w→All D w→InD w S u t) (hs:shortB t.files=true) (hb:inI b) (ht:TabW w0) (he:ErrVar w0) :
  GivesM Tryz.prog w0 D 26 #[.agg (dc u t),.int .i64 b] (Dat (RO r) S W) (fun x=>.tuple #[.agg (jc ⟨none,0⟩ r.1),.agg (dc x.1.2.2.1 r.2.1),.slice x.1.2.2.2.1 r.2.2.1.length x.1.2.2.2.2,.int .i64 r.2.2.2]) (fun x=>[poolF x.1.1 x.1.2.1]):=by
 subst e
 exact gives_dat (R:=RO (openL t b)) (r:=fun x=>.tuple #[.agg (jc ⟨none,0⟩ (openL t b).1),.agg (dc x.1 (openL t b).2.1),.slice x.2.1 (openL t b).2.2.1.length x.2.2,.int .i64 (openL t b).2.2.2]) hF (fun w hw ha=>v_open u t b S w (hd w hw ha) (hF w hw ha).2 hs hb (var_later ht hw) (ev_later he hw))
theorem g_wopen_n {b:Int} {r:Wl × DiskD × List FrameD × Int} {n:Nat} (e:openL t b=r) (hn:r.2.2.1.length=n) (hF:Fixed w0 D S W) (hd:∀ w,Below w0.heap.size w0 w→All D w→InD w S u t) (hs:shortB t.files=true) (hb:inI b) (ht:TabW w0) (he:ErrVar w0) :
  GivesM Tryz.prog w0 D 26 #[.agg (dc u t),.int .i64 b] (Dat (RO r) S W) (fun x=>.tuple #[.agg (jc ⟨none,0⟩ r.1),.agg (dc x.1.2.2.1 r.2.1),.slice x.1.2.2.2.1 n x.1.2.2.2.2,.int .i64 r.2.2.2]) (fun x=>[poolF x.1.1 x.1.2.1]):=by
 subst hn
 exact g_wopen e hF hd hs hb ht he
end
end Go.Proofs.YtalhdalinpdanaaGreatDoor.wal
end
section
namespace Go.Proofs.YtalhdalinpdanaaGreatDoor.wal
open Go.RowKit Go.Proofs.YtalhdalinpdanaaGreatDoor Go.Proofs.YtalhdalinpdanaaGreatDoor.frame Go.Proofs.YtalhdalinpdanaaGreatDoor.disk
set_option maxRecDepth 20000
section
variable {w0 W:World} {D:List Fact} {S:Nat→Prop} {u:Dv} {t:DiskD}
theorem g_rsame_f {A A2:Option Addr} {c c2:Nat} {L:List FrameD} (h1:∀ w,Below w0.heap.size w0 w→All D w→Elems rdFrame 9 w (Lt w.heap.size) A L) (h2:∀ w,Below w0.heap.size w0 w→All D w→Elems rdFrame 9 w (Lt w.heap.size) A2 L) (hl:L.length≤1000):Gives Tryz.prog w0 D 28 #[.slice A L.length c,.slice A2 L.length c2] (.bool true):=fun w hw ha =>
 scan.same_of w (h1 w hw ha) (Nat.le_refl _) rfl (by omega) (h2 w hw ha) (Nat.le_refl _) rfl (by omega) (decide_eq_true rfl)
end
end Go.Proofs.YtalhdalinpdanaaGreatDoor.wal
end
section
namespace Go.Proofs.YtalhdalinpdanaaGreatDoor.wal
set_option maxRecDepth 20000
open Go.RowKit Go.Proofs.YtalhdalinpdanaaGreatDoor Go.Proofs.YtalhdalinpdanaaGreatDoor.frame Go.Proofs.YtalhdalinpdanaaGreatDoor.disk
def keepTo (m:Int) (fs:List FileD):List FileD:=fs.filter fun f=>decide (numOf f.name≤m)
theorem num_le (s:ByteArray):numOf s≤1000000000:=by
 rcases Int.lt_or_le 0 (numOf s) with h | h
 ·exact (numOf_is h).2
 ·omega
theorem mem_keep {m:Int} {fs:List FileD} {f:FileD} : f ∈ keepTo m fs ↔ f ∈ fs∧numOf f.name≤m:=by unfold keepTo;rw [List.mem_filter,decide_eq_true_eq]
theorem row_keep {m:Int} {fs:List FileD} (h:Row fs):Row (keepTo m fs):=List.Pairwise.filter _ h
theorem keep_keep (a b:Int) (fs:List FileD):keepTo a (keepTo b fs)=keepTo (min a b) fs:=by
 unfold keepTo
 rw [List.filter_filter]
 refine List.filter_congr fun f _=>?_
 rw [Bool.eq_iff_iff]
 simp only [Bool.and_eq_true,decide_eq_true_eq]
 omega
theorem keep_self {m:Int} {fs:List FileD} (h:∀ f ∈ fs,numOf f.name≤m):keepTo m fs=fs:=List.filter_eq_self.2 fun f hf=>decide_eq_true (h f hf)
theorem nameV_in {n:Int} (h:1≤n∧n≤1000000000):nameV n=nameOf n:=by unfold nameV;rw [if_pos h]
theorem sans_keep {n:Int} {fs:List FileD} (hn:1≤n∧n≤1000000000) (h:∀ f ∈ fs,numOf f.name≤n):sans (nameOf n) fs=keepTo (n - 1) fs:=by
 unfold sans keepTo
 refine List.filter_congr fun f hf=>?_
 have h1:=h f hf
 rw [Bool.eq_iff_iff,decide_eq_true_eq,Bool.not_eq_true']
 constructor
 ·intro hs
  refine Int.le_sub_one_of_lt (Int.lt_iff_le_and_ne.2 ⟨h1,fun e=>?_⟩)
  have h2:=(numOf_is (s:=f.name) (by omega)).1
  rw [e] at h2
  rw [same_iff.2 h2] at hs;cases hs
 ·intro hl
  cases hs:sameName f.name (nameOf n) with
  |false=>rfl
  |true =>
   have h2:=same_iff.1 hs
   rw [h2,numOf_name (by omega) hn.2] at hl
   omega
structure Rem (a:Int) (d z:DiskD) (e:Int):Prop where
 f:∃ m,a≤m∧z.files=keepTo m d.files
 m:z.room=d.room
 ok:e=0→z.files=keepTo a d.files∧z.down=false∧(d.fuse = -1→z.fuse = -1)
 no:e≠0→e=9∧d.fuse ≠ -1
theorem remove_seg {d:DiskD} {n:Int} (hr:rightB d=true) (hd:d.down=false) (hn:n ∈ segs d):(d.fuse=0∧removeD d (nameV n)=(⟨d.files,d.room,d.fuse,true⟩,9)) ∨
  (d.fuse≠0∧removeD d (nameV n)=(⟨sans (nameOf n) d.files,d.room,if 0 < d.fuse then d.fuse - 1 else d.fuse,false⟩,0)):=by
 have hrng:=segs_rng d n hn
 obtain ⟨h0,f,hf,hfn⟩:=(segs_iff hr).1 hn
 have hnm:f.name=nameOf n:=by
  have:=(numOf_is (s:=f.name) (by omega)).1
  rwa [hfn] at this
 have hl:disk.look (nameOf n) d.files=some f:=by rw [← hnm];exact look_of (right_files hr).2.2.1 hf
 have h1:firstE d (nameOf n) (nameOf n)=0:=by rw [first_up hr hd,named_name];rfl
 have h2:noE d.files (nameOf n)=0:=by unfold noE;rw [hl];rfl
 rw [nameV_in hrng]
 unfold removeD opD
 rw [h1,h2,if_neg (by decide),if_neg (by decide)]
 by_cases hf0:d.fuse=0
 ·exact .inl ⟨hf0,by rw [if_pos hf0];rfl⟩
 ·exact .inr ⟨hf0,by rw [if_neg hf0,hd]⟩
theorem tw_filter {a:Int} : ∀ {m:List Int},m.Pairwise (fun x y=>y < x)→(m.takeWhile fun n=>decide (a < n))=m.filter fun n=>decide (a < n)
 | [],_=>rfl
 |x :: m,h=>by
  obtain ⟨h1,h2⟩:=List.pairwise_cons.1 h
  rw [List.takeWhile_cons,List.filter_cons]
  by_cases hx:a < x
  ·rw [if_pos (decide_eq_true hx),if_pos (decide_eq_true hx),tw_filter h2]
  ·rw [if_neg (by rw [decide_eq_true_eq];exact hx),if_neg (by rw [decide_eq_true_eq];exact hx)]
   exact (List.filter_eq_nil_iff.2 fun y hy=>by rw [decide_eq_true_eq];have:=h1 y hy;omega).symm
theorem above_filter {a:Int} {l:List Int} (h:l.Pairwise (· < ·)):aboveL a l=(l.filter fun n=>decide (a < n)).reverse:=by
 unfold aboveL
 rw [tw_filter (List.pairwise_reverse.2 h),List.filter_reverse]
theorem seg_le {d:DiskD} {m:Int} (hr:rightB d=true) (hm:0≤m) (h:∀ x ∈ segs d,x≤m):∀ f ∈ d.files,numOf f.name≤m:=fun f hf=>by
 rcases Int.lt_or_le 0 (numOf f.name) with h0 | h0
 ·exact h _ ((segs_iff hr).2 ⟨h0,f,hf,rfl⟩)
 ·omega
theorem rem_files:∀ (l:List Int) (a:Int) (d:DiskD),0≤a∧a≤1000000000→rightB d=true→d.down=false→l=((segs d).filter fun n=>decide (a < n)).reverse→Rem a d (remA d l).1 (remA d l).2
 | [],a,d,ha,hr,hd,hl=>by
  have h1:∀ x ∈ segs d,x≤a:=fun x hx=>by
   have h2:(segs d).filter (fun n=>decide (a < n))=[]:=by rw [← List.reverse_eq_nil_iff];exact hl.symm
   have:=List.filter_eq_nil_iff.1 h2 x hx
   rw [decide_eq_true_eq] at this;omega
  have h3:=(keep_self (seg_le hr ha.1 h1)).symm
  exact ⟨⟨a,Int.le_refl _,h3⟩,rfl,fun _=>⟨h3,hd,id⟩,fun h=>absurd rfl h⟩
 |n :: r,a,d,ha,hr,hd,hl=>by
  have hin:∀ x,x ∈ n :: r ↔ x ∈ segs d∧a < x:=fun x=>by rw [hl,List.mem_reverse,List.mem_filter,decide_eq_true_eq]
  have hp:(n :: r).Pairwise (fun x y=>y < x):=by rw [hl,List.pairwise_reverse];exact (segs_rise d).filter _
  obtain ⟨p1,p2⟩:=List.pairwise_cons.1 hp
  have hn:=(hin n).1 (by simp)
  have hrng:=segs_rng d n hn.1
  have hmax:∀ x ∈ segs d,x≤n:=fun x hx=>by
   by_cases hx2:a < x
   ·rcases List.mem_cons.1 ((hin x).2 ⟨hx,hx2⟩) with e | h
    ·omega
    ·have:=p1 x h;omega
   ·omega
  rw [remA]
  rcases remove_seg hr hd hn.1 with ⟨h0,e⟩ | ⟨h0,e⟩
  ·rw [e,if_neg (show ¬ (9:Int)=0 by decide)]
   exact ⟨⟨1000000000,ha.2,(keep_self fun f _=>num_le _).symm⟩,rfl,fun h=>absurd h (show ¬ (9:Int)=0 by decide),fun _=>⟨rfl,by omega⟩⟩
  ·have hr2:rightB (removeD d (nameV n)).1=true:=right_remove hr
   have hs2:=segs_remove hr hrng (by rw [e])
   rw [if_pos (by rw [e])]
   have hf2:(removeD d (nameV n)).1.files=keepTo (n - 1) d.files:=by
    rw [e];exact sans_keep hrng (seg_le hr (by omega) hmax)
   have hm2:(removeD d (nameV n)).1.room=d.room:=by rw [e]
   have hd2:(removeD d (nameV n)).1.down=false:=by rw [e]
   have hu2:d.fuse = -1→(removeD d (nameV n)).1.fuse = -1:=fun h=>by rw [e];show (if 0 < d.fuse then d.fuse - 1 else d.fuse) = -1;rw [if_neg (by omega)];exact h
   obtain ⟨x,hx⟩:∃ x,(removeD d (nameV n)).1=x:=⟨_,rfl⟩
   rw [hx] at hr2 hs2 hf2 hm2 hd2 hu2 ⊢
   have hu3:x.fuse ≠ -1→d.fuse ≠ -1:=fun h h2=>h (hu2 h2)
   have:=rem_files r a x ha hr2 hd2 (by
    refine (List.reverse_eq_iff.1 (rise_ext (List.pairwise_reverse.2 p2) ((segs_rise x).filter _) fun y=>?_))
    rw [List.mem_reverse,List.mem_filter,decide_eq_true_eq,hs2 y]
    constructor
    ·intro hy
     have h1:=(hin y).1 (List.mem_cons_of_mem _ hy);have h2:=p1 y hy
     exact ⟨⟨h1.1,by omega⟩,h1.2⟩
    ·rintro ⟨⟨h1,h2⟩,h3⟩
     rcases List.mem_cons.1 ((hin y).2 ⟨h1,h3⟩) with h | h
     ·exact absurd h h2
     ·exact h)
   obtain ⟨⟨m,g1,g2⟩,g3,g4,g5⟩:=this
   refine ⟨⟨min m (n - 1),by omega,by rw [g2,hf2,keep_keep]⟩,g3.trans hm2,fun h=>?_,fun h=>⟨(g5 h).1,hu3 (g5 h).2⟩⟩
   obtain ⟨k1,k2,k3⟩:=g4 h
   refine ⟨?_,k2,fun h=>k3 (hu2 h)⟩
   rw [k1,hf2,keep_keep,show min a (n - 1)=a by omega]
theorem removed_files {d:DiskD} {a:Int} (ha:0≤a∧a≤1000000000) (hr:rightB d=true) (hd:d.down=false):Rem a d (removedA d a).1 (removedA d a).2:=rem_files _ a d ha hr hd (above_filter (segs_rise d))
def heldF (fs:List FileD) (g:Int):List Nat:=match disk.look (nameV g) fs with
 |some f=>f.data
 |none=>[]
theorem held_f (t:DiskD) (g:Int):heldV t g=heldF t.files g:=rfl
def cutTo (g k:Int) (fs:List FileD):List FileD:=if k < ((heldF fs g).length:Int) then cutF fs (nameV g) k else fs
theorem held_some {fs:List FileD} {g k:Int} (hk:0≤k) (h:k < ((heldF fs g).length:Int)):∃ f,disk.look (nameV g) fs=some f∧oldOf (nameV g) fs=f∧f ∈ fs∧f.name=nameV g∧heldF fs g=f.data:=by
 rcases old_cases (nameV g) fs with ⟨h1,_⟩ | ⟨f,h1,h2,h3,h4⟩
 ·unfold heldF at h
  rw [h1] at h
  simp only [List.length_nil] at h;omega
 ·exact ⟨f,h1,h2,h3,h4,by unfold heldF;rw [h1]⟩
theorem cut_seg {d:DiskD} {g k:Int} (hr:rightB d=true) (hd:d.down=false) (hk:0≤k) (h:k < ((heldV d g).length:Int)):(d.fuse=0∧cutD d (nameV g) k=(⟨d.files,d.room,d.fuse,true⟩,9)) ∨
  (d.fuse≠0∧cutD d (nameV g) k=(⟨cutF d.files (nameV g) k,d.room,if 0 < d.fuse then d.fuse - 1 else d.fuse,false⟩,0)):=by
 rw [held_f] at h
 obtain ⟨f,h1,h2,h3,h4,h5⟩:=held_some hk h
 have hok:=(right_files hr).2.1 f h3
 have hnamed:named (nameV g)=true:=by
  rw [← h4]
  unfold fileOk at hok
  simp only [Bool.and_eq_true] at hok
  exact hok.1.1.1
 have e1:firstE d (nameV g) (nameV g)=0:=by rw [first_up hr hd,hnamed];rfl
 have e2:cutE d.files (nameV g) k=0:=by
  unfold cutE
  rw [h1,if_neg (by simp),h2,if_neg (by rw [h5] at h;omega)]
 unfold cutD opD
 rw [e1,e2,if_neg (by decide),if_neg (by decide)]
 by_cases hf0:d.fuse=0
 ·exact .inl ⟨hf0,by rw [if_pos hf0];rfl⟩
 ·exact .inr ⟨hf0,by rw [if_neg hf0,hd]⟩
structure Mnd (g k:Int) (d z:DiskD) (e:Int):Prop where
 f:(∃ m,g≤m∧z.files=keepTo m d.files)∨z.files=cutTo g k (keepTo g d.files)
 m:z.room=d.room
 ok:e=0→z.files=cutTo g k (keepTo g d.files)∧z.down=false∧(d.fuse = -1→z.fuse = -1)
 no:e≠0→e=9∧d.fuse ≠ -1
theorem mend_files {s:Wl} {t:DiskD} (hg:0≤s.g∧s.g≤1000000000) (hc:0≤s.c) (hr:rightB t=true) (hd:t.down=false):Mnd s.g (s.c * 72) t (mendL s t).1 (mendL s t).2:=by
 have hrem:=removed_files hg hr hd
 have hr2:rightB (removedA t s.g).1=true:=rem_right hr
 obtain ⟨f,m,ok,no⟩:=hrem
 by_cases h0:(removedA t s.g).2=0
 ·obtain ⟨f2,d2,u2⟩:=ok h0
  by_cases h1:s.c * 72 < ((heldV (removedA t s.g).1 s.g).length:Int)
  ·rw [m_cut h0 h1]
   have hcut:cutTo s.g (s.c * 72) (keepTo s.g t.files)=cutF (removedA t s.g).1.files (nameV s.g) (s.c * 72):=by
    rw [held_f,f2] at h1
    unfold cutTo
    rw [if_pos h1,f2]
   rcases cut_seg hr2 d2 (by omega) h1 with ⟨z0,e⟩ | ⟨z0,e⟩
   ·rw [e]
    exact ⟨.inl f,m,fun h=>absurd h (show ¬ (9:Int)=0 by decide),fun _=>⟨rfl,fun h=>by have:=u2 h;omega⟩⟩
   ·rw [e]
    exact ⟨.inr hcut.symm,m,fun _=>⟨hcut.symm,rfl,fun h=>by have:=u2 h;show (if _ then _ else _)=_;rw [if_neg (by omega)];exact this⟩,fun h=>absurd rfl h⟩
  ·rw [m_keep h1]
   have hcut:(removedA t s.g).1.files=cutTo s.g (s.c * 72) (keepTo s.g t.files):=by
    rw [held_f,f2] at h1
    unfold cutTo
    rw [if_neg h1,f2]
   exact ⟨.inl f,m,fun _=>⟨hcut,d2,u2⟩,no⟩
 ·rw [m_err h0]
  exact ⟨.inl f,m,fun h=>absurd h h0,no⟩
end Go.Proofs.YtalhdalinpdanaaGreatDoor.wal
end
