/-
  WalRo, WalGo, WalOi, WalA1, WalA2, WalA3, WalA4
-/
import Derived.Test.YtalhdalinpdanaaGreatDoorMwa46
import Derived.Test.YtalhdalinpdanaaGreatDoorMwa36
import Derived.Test.YtalhdalinpdanaaGreatDoorMwa45
import Derived.Test.YtalhdalinpdanaaGreatDoorMwa41
import Derived.Test.YtalhdalinpdanaaGreatDoorMwa40
set_option linter.unusedVariables false
set_option linter.unusedSimpArgs false
section
namespace Go.Proofs.YtalhdalinpdanaaGreatDoor.wal
open Go.RowKit Go.Proofs.YtalhdalinpdanaaGreatDoor Go.Proofs.YtalhdalinpdanaaGreatDoor.frame Go.Proofs.YtalhdalinpdanaaGreatDoor.disk
set_option maxRecDepth 20000
theorem readR_all (t:DiskD) (P:FrameD→Prop) (hP:∀ a ep,∀ f ∈ scanV t a ep,P f):∀ (l:List Int) (i:Nat) (ep:Int) (all:List FrameD),(∀ f ∈ all,P f)→(∀ f ∈ (readR t l i ep all).1,P f)∧(readR t l i ep all).1.length≤all.length+8 * l.length∧(readR t l i ep all).2.2.1≤8
 | [],i,ep,all,h=>⟨fun f hf=>(by cases hf),by simp [readR],by simp [readR]⟩
 |a :: l,i,ep,all,h=>by
  have h8:=scanV_len t a ep
  have hm:∀ f ∈ all++scanV t a ep,P f:=fun f hf=>(List.mem_append.1 hf).elim (h f) (hP a ep f)
  rw [readR]
  split
  ·exact ⟨hm,by simp only [List.length_append,List.length_cons];omega,h8⟩
  ·obtain ⟨h1,h2,h3⟩:=readR_all t P hP l (i+1) (epF (scanV t a ep) ep) _ hm
   refine ⟨h1,?_,h3⟩
   rw [List.length_append] at h2
   simp only [List.length_cons];omega
theorem rq_len (t:DiskD):(readQ t).1.length≤8 * (segs t).length:=by
 have:=(readR_all t (fun _=>True) (fun _ _ _ _=>trivial) (segs t) 0 1 [] (fun _ _=>trivial)).2.1
 simp only [List.length_nil] at this
 unfold readQ;omega
section
variable {t:DiskD} {b z:Int} {i k:Nat} {nb:Bool}
theorem lf_rng (h:¬ ((readQ t).1.length:Int)=0):1≤(lastF (readQ t).1).e∧(lastF (readQ t).1).e≤1000000∧1≤(lastF (readQ t).1).l∧(lastF (readQ t).1).l≤1000000000:=by
 have:=(readR_all t (fun f=>frame.right f=true) (fun a ep f hf=>scan_all_right _ _ _ _ f hf) (segs t) 0 1 [] (fun f hf=>by cases hf)).1
 have hk:(readQ t).1.length - 1 < (readQ t).1.length:=by omega
 have h2:=this (lastF (readQ t).1) (by unfold lastF;rw [List.getD_eq_getElem?_getD,List.getElem?_eq_getElem hk];exact List.getElem_mem hk)
 unfold frame.right at h2
 have:=of_decide_eq_true h2
 omega
theorem no_1 (h:((readQ t).1.length:Int)=0):true=noB (readQ t).1 b:=by unfold noB;rw [decide_eq_true (show (readQ t).1.length=0 by omega)];rfl
theorem no_pos (h:nb=noB (readQ t).1 b) (h2:nb=false):¬ ((readQ t).1.length:Int)=0:=fun e=>by
 have:=no_1 (b:=b) e
 rw [← h,h2] at this;cases this
theorem left_in {left:Nat} (h:left=leftQ (readQ t)∧noB (readQ t).1 b=false):left - 1 < (segs t).length:=by
 obtain ⟨K,hK⟩:=rq t
 have hk:leftQ (readQ t)=K:=hK.k.symm
 have hm:=hK.m;have hkk:=hK.k
 have hp:=no_pos rfl h.2
 have hz:K≠0:=fun hz=>hp (by rw [(hK.z hz).2];rfl)
 rw [h.1,hk]
 split at hkk<;>omega
section
variable {D D1:DiskD} {e:Int} {left left' : Nat}
end
section
variable {D:DiskD} {e:Int} {left:Nat}
end
end
section
variable {w0 W:World} {D:List Fact} {S:Nat→Prop} {u:Dv} {t:DiskD}
end
end Go.Proofs.YtalhdalinpdanaaGreatDoor.wal
end
section
namespace Go.Proofs.YtalhdalinpdanaaGreatDoor.wal
set_option maxRecDepth 20000
open Go.RowKit Go.Proofs.YtalhdalinpdanaaGreatDoor Go.Proofs.YtalhdalinpdanaaGreatDoor.frame Go.Proofs.YtalhdalinpdanaaGreatDoor.disk
abbrev RO (r:Wl × DiskD × List FrameD × Int):World→(Nat→Prop)→Dv × (Option Addr × Nat)→Prop:=fun w S b=>InD w S b.1 r.2.1∧Elems rdFrame 9 w S b.2.1 r.2.2.1∧r.2.2.1.length≤b.2.2∧b.2.2≤maxLen
theorem keeps_o (r:Wl × DiskD × List FrameD × Int):Keeps3 (RO r):=fun w w' S S' b h ha hs=>⟨h.1.keep ha.alike hs,h.2.1.keep keeps_frame ha.alike hs,h.2.2⟩
theorem nil_j {w:World} {S:Nat→Prop} {e n u g c:Int} (h:inI e∧inI n∧inI u∧inI g∧inI c):InJ w S ⟨none,0⟩ ⟨e,n,u,g,c,[]⟩ :=
 ⟨fun hk=>absurd hk (Nat.lt_irrefl 0),Nat.le_refl _,Nat.zero_le _,h.1,h.2.1,h.2.2.1,h.2.2.2.1,h.2.2.2.2⟩
section
variable {w0 W:World} {D:List Fact} {S:Nat→Prop} {u:Dv} {t:DiskD}
theorem g_wopen {b:Int} {r:Wl × DiskD × List FrameD × Int} (e:openL t b=r) (hF:Fixed w0 D S W) (hd:∀ w,Below w0.heap.size w0 w→All D w→InD w S u t) (hs:shortB t.files=true) (hb:inI b) (ht:TabW w0) (he:ErrVar w0) :
  GivesM Tryz.prog w0 D 26 #[.agg (dc u t),.int .i64 b] (Dat (RO r) S W) (fun x=>.tuple #[.agg (jc ⟨none,0⟩ r.1),.agg (dc x.1.2.2.1 r.2.1),.slice x.1.2.2.2.1 r.2.2.1.length x.1.2.2.2.2,.int .i64 r.2.2.2]) (fun x=>[poolF x.1.1 x.1.2.1]):=by
 subst e
 exact gives_dat (R:=RO (openL t b)) (r:=fun x=>.tuple #[.agg (jc ⟨none,0⟩ (openL t b).1),.agg (dc x.1 (openL t b).2.1),.slice x.2.1 (openL t b).2.2.1.length x.2.2,.int .i64 (openL t b).2.2.2]) hF (fun w hw ha=>v_open u t b S w (hd w hw ha) (hF w hw ha).2 hs hb (var_later ht hw) (ev_later he hw))
theorem g_wopen_n {b:Int} {r:Wl × DiskD × List FrameD × Int} {n:Nat} (e:openL t b=r) (hn:r.2.2.1.length=n) (hF:Fixed w0 D S W) (hd:∀ w,Below w0.heap.size w0 w→All D w→InD w S u t) (hs:shortB t.files=true) (hb:inI b) (ht:TabW w0) (he:ErrVar w0) :
  GivesM Tryz.prog w0 D 26 #[.agg (dc u t),.int .i64 b] (Dat (RO r) S W) (fun x=>.tuple #[.agg (jc ⟨none,0⟩ r.1),.agg (dc x.1.2.2.1 r.2.1),.slice x.1.2.2.2.1 n x.1.2.2.2.2,.int .i64 r.2.2.2]) (fun x=>[poolF x.1.1 x.1.2.1]):=by
 subst hn
 exact g_wopen e hF hd hs hb ht he
end
end Go.Proofs.YtalhdalinpdanaaGreatDoor.wal
end
section
namespace Go.Proofs.YtalhdalinpdanaaGreatDoor.wal
open Go.RowKit Go.Proofs.YtalhdalinpdanaaGreatDoor Go.Proofs.YtalhdalinpdanaaGreatDoor.frame Go.Proofs.YtalhdalinpdanaaGreatDoor.disk
set_option maxRecDepth 20000
section
variable {w0 W:World} {D:List Fact} {S:Nat→Prop} {u:Dv} {t:DiskD}
theorem g_rsame_f {A A2:Option Addr} {c c2:Nat} {L:List FrameD} (h1:∀ w,Below w0.heap.size w0 w→All D w→Elems rdFrame 9 w (Lt w.heap.size) A L) (h2:∀ w,Below w0.heap.size w0 w→All D w→Elems rdFrame 9 w (Lt w.heap.size) A2 L) (hl:L.length≤1000):Gives Tryz.prog w0 D 28 #[.slice A L.length c,.slice A2 L.length c2] (.bool true):=fun w hw ha =>
 scan.same_of w (h1 w hw ha) (Nat.le_refl _) rfl (by omega) (h2 w hw ha) (Nat.le_refl _) rfl (by omega) (decide_eq_true rfl)
end
theorem open_in {t:DiskD} {b:Int} (hb:inI b) (hs:shortB t.files=true):∃ e n u1 g c D L z,openL t b=((⟨e,n,u1,g,c,[]⟩:Wl),D,L,z)∧(inI e∧inI n∧inI u1∧inI g∧inI c)∧L.length≤1000:=by
 rw [← openR_is]
 unfold openR
 have hz:inI 0:=by unfold inI;omega
 split
 ·exact ⟨_,_,_,_,_,_,_,_,rfl,⟨hz,hz,hz,hz,hz⟩,Nat.zero_le _⟩
 rename_i hb1
 split
 ·exact ⟨_,_,_,_,_,_,_,_,rfl,⟨hz,hz,hz,hz,hz⟩,Nat.zero_le _⟩
 split
 ·exact ⟨_,_,_,_,_,_,_,_,rfl,⟨hz,hz,hz,hz,hz⟩,Nat.zero_le _⟩
 split
 ·exact ⟨_,_,_,_,_,_,_,_,rfl,⟨hz,hz,hz,hz,hz⟩,Nat.zero_le _⟩
 split
 ·cases hno:noB (readQ t).1 b with
  |true =>
   rw [if_pos rfl,if_pos rfl]
   exact ⟨_,_,_,_,_,_,_,_,rfl,⟨by unfold inI;omega,by unfold inI;omega,hb,hz,hz⟩,Nat.zero_le _⟩
  |false =>
   rw [if_neg (by simp),if_neg (by simp)]
   have h1:=lf_rng (no_pos rfl hno)
   have h2:=seg_rng (segs_rng t) (left_in (b:=b) ⟨rfl,hno⟩)
   have h3:=rq_len t
   have h4:=segs_len hs
   refine ⟨_,_,_,_,_,_,_,_,rfl,⟨by unfold inI;omega,by unfold inI;omega,by unfold inI;omega,by unfold inI;omega,by unfold inI;omega⟩,?_⟩
   exact Nat.le_trans (List.length_filter_le _ _) (by omega)
 ·exact ⟨_,_,_,_,_,_,_,_,rfl,⟨hz,hz,hz,hz,hz⟩,Nat.zero_le _⟩
end Go.Proofs.YtalhdalinpdanaaGreatDoor.wal
end
section
namespace Go.Proofs.YtalhdalinpdanaaGreatDoor.wal
set_option maxRecDepth 20000
open Go.RowKit Go.Proofs.YtalhdalinpdanaaGreatDoor Go.Proofs.YtalhdalinpdanaaGreatDoor.frame Go.Proofs.YtalhdalinpdanaaGreatDoor.disk
def keepTo (m:Int) (fs:List FileD):List FileD:=fs.filter fun f=>decide (numOf f.name≤m)
theorem num_le (s:ByteArray):numOf s≤1000000000:=by
 rcases Int.lt_or_le 0 (numOf s) with h | h
 ·exact (numOf_is h).2
 ·omega
theorem mem_keep {m:Int} {fs:List FileD} {f:FileD} : f ∈ keepTo m fs ↔ f ∈ fs∧numOf f.name≤m:=by unfold keepTo;rw [List.mem_filter,decide_eq_true_eq]
theorem row_keep {m:Int} {fs:List FileD} (h:Row fs):Row (keepTo m fs):=List.Pairwise.filter _ h
theorem keep_keep (a b:Int) (fs:List FileD):keepTo a (keepTo b fs)=keepTo (min a b) fs:=by
 unfold keepTo
 rw [List.filter_filter]
 refine List.filter_congr fun f _=>?_
 rw [Bool.eq_iff_iff]
 simp only [Bool.and_eq_true,decide_eq_true_eq]
 omega
theorem keep_self {m:Int} {fs:List FileD} (h:∀ f ∈ fs,numOf f.name≤m):keepTo m fs=fs:=List.filter_eq_self.2 fun f hf=>decide_eq_true (h f hf)
theorem nameV_in {n:Int} (h:1≤n∧n≤1000000000):nameV n=nameOf n:=by unfold nameV;rw [if_pos h]
theorem sans_keep {n:Int} {fs:List FileD} (hn:1≤n∧n≤1000000000) (h:∀ f ∈ fs,numOf f.name≤n):sans (nameOf n) fs=keepTo (n - 1) fs:=by
 unfold sans keepTo
 refine List.filter_congr fun f hf=>?_
 have h1:=h f hf
 rw [Bool.eq_iff_iff,decide_eq_true_eq,Bool.not_eq_true']
 constructor
 ·intro hs
  refine Int.le_sub_one_of_lt (Int.lt_iff_le_and_ne.2 ⟨h1,fun e=>?_⟩)
  have h2:=(numOf_is (s:=f.name) (by omega)).1
  rw [e] at h2
  rw [same_iff.2 h2] at hs;cases hs
 ·intro hl
  cases hs:sameName f.name (nameOf n) with
  |false=>rfl
  |true =>
   have h2:=same_iff.1 hs
   rw [h2,numOf_name (by omega) hn.2] at hl
   omega
structure Rem (a:Int) (d z:DiskD) (e:Int):Prop where
 f:∃ m,a≤m∧z.files=keepTo m d.files
 m:z.room=d.room
 ok:e=0→z.files=keepTo a d.files∧z.down=false∧(d.fuse = -1→z.fuse = -1)
 no:e≠0→e=9∧d.fuse ≠ -1
theorem remove_seg {d:DiskD} {n:Int} (hr:rightB d=true) (hd:d.down=false) (hn:n ∈ segs d):(d.fuse=0∧removeD d (nameV n)=(⟨d.files,d.room,d.fuse,true⟩,9)) ∨
  (d.fuse≠0∧removeD d (nameV n)=(⟨sans (nameOf n) d.files,d.room,if 0 < d.fuse then d.fuse - 1 else d.fuse,false⟩,0)):=by
 have hrng:=segs_rng d n hn
 obtain ⟨h0,f,hf,hfn⟩:=(segs_iff hr).1 hn
 have hnm:f.name=nameOf n:=by
  have:=(numOf_is (s:=f.name) (by omega)).1
  rwa [hfn] at this
 have hl:disk.look (nameOf n) d.files=some f:=by rw [← hnm];exact look_of (right_files hr).2.2.1 hf
 have h1:firstE d (nameOf n) (nameOf n)=0:=by rw [first_up hr hd,named_name];rfl
 have h2:noE d.files (nameOf n)=0:=by unfold noE;rw [hl];rfl
 rw [nameV_in hrng]
 unfold removeD opD
 rw [h1,h2,if_neg (by decide),if_neg (by decide)]
 by_cases hf0:d.fuse=0
 ·exact .inl ⟨hf0,by rw [if_pos hf0];rfl⟩
 ·exact .inr ⟨hf0,by rw [if_neg hf0,hd]⟩
theorem tw_filter {a:Int} : ∀ {m:List Int},m.Pairwise (fun x y=>y < x)→(m.takeWhile fun n=>decide (a < n))=m.filter fun n=>decide (a < n)
 | [],_=>rfl
 |x :: m,h=>by
  obtain ⟨h1,h2⟩:=List.pairwise_cons.1 h
  rw [List.takeWhile_cons,List.filter_cons]
  by_cases hx:a < x
  ·rw [if_pos (decide_eq_true hx),if_pos (decide_eq_true hx),tw_filter h2]
  ·rw [if_neg (by rw [decide_eq_true_eq];exact hx),if_neg (by rw [decide_eq_true_eq];exact hx)]
   exact (List.filter_eq_nil_iff.2 fun y hy=>by rw [decide_eq_true_eq];have:=h1 y hy;omega).symm
theorem above_filter {a:Int} {l:List Int} (h:l.Pairwise (· < ·)):aboveL a l=(l.filter fun n=>decide (a < n)).reverse:=by
 unfold aboveL
 rw [tw_filter (List.pairwise_reverse.2 h),List.filter_reverse]
theorem seg_le {d:DiskD} {m:Int} (hr:rightB d=true) (hm:0≤m) (h:∀ x ∈ segs d,x≤m):∀ f ∈ d.files,numOf f.name≤m:=fun f hf=>by
 rcases Int.lt_or_le 0 (numOf f.name) with h0 | h0
 ·exact h _ ((segs_iff hr).2 ⟨h0,f,hf,rfl⟩)
 ·omega
theorem rem_files:∀ (l:List Int) (a:Int) (d:DiskD),0≤a∧a≤1000000000→rightB d=true→d.down=false→l=((segs d).filter fun n=>decide (a < n)).reverse→Rem a d (remA d l).1 (remA d l).2
 | [],a,d,ha,hr,hd,hl=>by
  have h1:∀ x ∈ segs d,x≤a:=fun x hx=>by
   have h2:(segs d).filter (fun n=>decide (a < n))=[]:=by rw [← List.reverse_eq_nil_iff];exact hl.symm
   have:=List.filter_eq_nil_iff.1 h2 x hx
   rw [decide_eq_true_eq] at this;omega
  have h3:=(keep_self (seg_le hr ha.1 h1)).symm
  exact ⟨⟨a,Int.le_refl _,h3⟩,rfl,fun _=>⟨h3,hd,id⟩,fun h=>absurd rfl h⟩
 |n :: r,a,d,ha,hr,hd,hl=>by
  have hin:∀ x,x ∈ n :: r ↔ x ∈ segs d∧a < x:=fun x=>by rw [hl,List.mem_reverse,List.mem_filter,decide_eq_true_eq]
  have hp:(n :: r).Pairwise (fun x y=>y < x):=by rw [hl,List.pairwise_reverse];exact (segs_rise d).filter _
  obtain ⟨p1,p2⟩:=List.pairwise_cons.1 hp
  have hn:=(hin n).1 (by simp)
  have hrng:=segs_rng d n hn.1
  have hmax:∀ x ∈ segs d,x≤n:=fun x hx=>by
   by_cases hx2:a < x
   ·rcases List.mem_cons.1 ((hin x).2 ⟨hx,hx2⟩) with e | h
    ·omega
    ·have:=p1 x h;omega
   ·omega
  rw [remA]
  rcases remove_seg hr hd hn.1 with ⟨h0,e⟩ | ⟨h0,e⟩
  ·rw [e,if_neg (show ¬ (9:Int)=0 by decide)]
   exact ⟨⟨1000000000,ha.2,(keep_self fun f _=>num_le _).symm⟩,rfl,fun h=>absurd h (show ¬ (9:Int)=0 by decide),fun _=>⟨rfl,by omega⟩⟩
  ·have hr2:rightB (removeD d (nameV n)).1=true:=right_remove hr
   have hs2:=segs_remove hr hrng (by rw [e])
   rw [if_pos (by rw [e])]
   have hf2:(removeD d (nameV n)).1.files=keepTo (n - 1) d.files:=by
    rw [e];exact sans_keep hrng (seg_le hr (by omega) hmax)
   have hm2:(removeD d (nameV n)).1.room=d.room:=by rw [e]
   have hd2:(removeD d (nameV n)).1.down=false:=by rw [e]
   have hu2:d.fuse = -1→(removeD d (nameV n)).1.fuse = -1:=fun h=>by rw [e];show (if 0 < d.fuse then d.fuse - 1 else d.fuse) = -1;rw [if_neg (by omega)];exact h
   obtain ⟨x,hx⟩:∃ x,(removeD d (nameV n)).1=x:=⟨_,rfl⟩
   rw [hx] at hr2 hs2 hf2 hm2 hd2 hu2 ⊢
   have hu3:x.fuse ≠ -1→d.fuse ≠ -1:=fun h h2=>h (hu2 h2)
   have:=rem_files r a x ha hr2 hd2 (by
    refine (List.reverse_eq_iff.1 (rise_ext (List.pairwise_reverse.2 p2) ((segs_rise x).filter _) fun y=>?_))
    rw [List.mem_reverse,List.mem_filter,decide_eq_true_eq,hs2 y]
    constructor
    ·intro hy
     have h1:=(hin y).1 (List.mem_cons_of_mem _ hy);have h2:=p1 y hy
     exact ⟨⟨h1.1,by omega⟩,h1.2⟩
    ·rintro ⟨⟨h1,h2⟩,h3⟩
     rcases List.mem_cons.1 ((hin y).2 ⟨h1,h3⟩) with h | h
     ·exact absurd h h2
     ·exact h)
   obtain ⟨⟨m,g1,g2⟩,g3,g4,g5⟩:=this
   refine ⟨⟨min m (n - 1),by omega,by rw [g2,hf2,keep_keep]⟩,g3.trans hm2,fun h=>?_,fun h=>⟨(g5 h).1,hu3 (g5 h).2⟩⟩
   obtain ⟨k1,k2,k3⟩:=g4 h
   refine ⟨?_,k2,fun h=>k3 (hu2 h)⟩
   rw [k1,hf2,keep_keep,show min a (n - 1)=a by omega]
theorem removed_files {d:DiskD} {a:Int} (ha:0≤a∧a≤1000000000) (hr:rightB d=true) (hd:d.down=false):Rem a d (removedA d a).1 (removedA d a).2:=rem_files _ a d ha hr hd (above_filter (segs_rise d))
def heldF (fs:List FileD) (g:Int):List Nat:=match disk.look (nameV g) fs with
 |some f=>f.data
 |none=>[]
theorem held_f (t:DiskD) (g:Int):heldV t g=heldF t.files g:=rfl
def cutTo (g k:Int) (fs:List FileD):List FileD:=if k < ((heldF fs g).length:Int) then cutF fs (nameV g) k else fs
theorem held_some {fs:List FileD} {g k:Int} (hk:0≤k) (h:k < ((heldF fs g).length:Int)):∃ f,disk.look (nameV g) fs=some f∧oldOf (nameV g) fs=f∧f ∈ fs∧f.name=nameV g∧heldF fs g=f.data:=by
 rcases old_cases (nameV g) fs with ⟨h1,_⟩ | ⟨f,h1,h2,h3,h4⟩
 ·unfold heldF at h
  rw [h1] at h
  simp only [List.length_nil] at h;omega
 ·exact ⟨f,h1,h2,h3,h4,by unfold heldF;rw [h1]⟩
theorem cut_seg {d:DiskD} {g k:Int} (hr:rightB d=true) (hd:d.down=false) (hk:0≤k) (h:k < ((heldV d g).length:Int)):(d.fuse=0∧cutD d (nameV g) k=(⟨d.files,d.room,d.fuse,true⟩,9)) ∨
  (d.fuse≠0∧cutD d (nameV g) k=(⟨cutF d.files (nameV g) k,d.room,if 0 < d.fuse then d.fuse - 1 else d.fuse,false⟩,0)):=by
 rw [held_f] at h
 obtain ⟨f,h1,h2,h3,h4,h5⟩:=held_some hk h
 have hok:=(right_files hr).2.1 f h3
 have hnamed:named (nameV g)=true:=by
  rw [← h4]
  unfold fileOk at hok
  simp only [Bool.and_eq_true] at hok
  exact hok.1.1.1
 have e1:firstE d (nameV g) (nameV g)=0:=by rw [first_up hr hd,hnamed];rfl
 have e2:cutE d.files (nameV g) k=0:=by
  unfold cutE
  rw [h1,if_neg (by simp),h2,if_neg (by rw [h5] at h;omega)]
 unfold cutD opD
 rw [e1,e2,if_neg (by decide),if_neg (by decide)]
 by_cases hf0:d.fuse=0
 ·exact .inl ⟨hf0,by rw [if_pos hf0];rfl⟩
 ·exact .inr ⟨hf0,by rw [if_neg hf0,hd]⟩
structure Mnd (g k:Int) (d z:DiskD) (e:Int):Prop where
 f:(∃ m,g≤m∧z.files=keepTo m d.files)∨z.files=cutTo g k (keepTo g d.files)
 m:z.room=d.room
 ok:e=0→z.files=cutTo g k (keepTo g d.files)∧z.down=false∧(d.fuse = -1→z.fuse = -1)
 no:e≠0→e=9∧d.fuse ≠ -1
theorem mend_files {s:Wl} {t:DiskD} (hg:0≤s.g∧s.g≤1000000000) (hc:0≤s.c) (hr:rightB t=true) (hd:t.down=false):Mnd s.g (s.c * 72) t (mendL s t).1 (mendL s t).2:=by
 have hrem:=removed_files hg hr hd
 have hr2:rightB (removedA t s.g).1=true:=rem_right hr
 obtain ⟨f,m,ok,no⟩:=hrem
 by_cases h0:(removedA t s.g).2=0
 ·obtain ⟨f2,d2,u2⟩:=ok h0
  by_cases h1:s.c * 72 < ((heldV (removedA t s.g).1 s.g).length:Int)
  ·rw [m_cut h0 h1]
   have hcut:cutTo s.g (s.c * 72) (keepTo s.g t.files)=cutF (removedA t s.g).1.files (nameV s.g) (s.c * 72):=by
    rw [held_f,f2] at h1
    unfold cutTo
    rw [if_pos h1,f2]
   rcases cut_seg hr2 d2 (by omega) h1 with ⟨z0,e⟩ | ⟨z0,e⟩
   ·rw [e]
    exact ⟨.inl f,m,fun h=>absurd h (show ¬ (9:Int)=0 by decide),fun _=>⟨rfl,fun h=>by have:=u2 h;omega⟩⟩
   ·rw [e]
    exact ⟨.inr hcut.symm,m,fun _=>⟨hcut.symm,rfl,fun h=>by have:=u2 h;show (if _ then _ else _)=_;rw [if_neg (by omega)];exact this⟩,fun h=>absurd rfl h⟩
  ·rw [m_keep h1]
   have hcut:(removedA t s.g).1.files=cutTo s.g (s.c * 72) (keepTo s.g t.files):=by
    rw [held_f,f2] at h1
    unfold cutTo
    rw [if_neg h1,f2]
   exact ⟨.inl f,m,fun _=>⟨hcut,d2,u2⟩,no⟩
 ·rw [m_err h0]
  exact ⟨.inl f,m,fun h=>absurd h h0,no⟩
end Go.Proofs.YtalhdalinpdanaaGreatDoor.wal
end
section
namespace Go.Proofs.YtalhdalinpdanaaGreatDoor.wal
set_option maxRecDepth 20000
open Go.RowKit Go.Proofs.YtalhdalinpdanaaGreatDoor Go.Proofs.YtalhdalinpdanaaGreatDoor.frame Go.Proofs.YtalhdalinpdanaaGreatDoor.disk
theorem scan_self:∀ (k:Nat) (b:List Nat) (n e:Int),scan.scan k (b.take (72 * (scan.scan k b n e).length)) n e=scan.scan k b n e
 | 0,_,_,_=>rfl
 |k + 1,b,n,e=>by
  obtain ⟨q,hq⟩:∃ q,scan.scan (k+1) b n e=q:=⟨_,rfl⟩
  rw [hq]
  rw [scan.scan] at hq
  split at hq
  ·rename_i hc
   obtain ⟨q',hq'⟩:∃ q',scan.scan k (b.drop 72) (n+1) (dec (b.take 72)).2.e=q':=⟨_,rfl⟩
   have ih:=scan_self k (b.drop 72) (n+1) (dec (b.take 72)).2.e
   rw [hq'] at hq ih
   subst hq
   have e1:(b.take (72 * ((dec (b.take 72)).2 :: q').length)).take 72=b.take 72:=by
    rw [List.take_take,List.length_cons,Nat.min_eq_left (by omega)]
   have e2:(b.take (72 * ((dec (b.take 72)).2 :: q').length)).drop 72=(b.drop 72).take (72 * q'.length):=by
    rw [List.drop_take,List.length_cons,show 72 * (q'.length+1) - 72=72 * q'.length by omega]
   have e3:72≤(b.take (72 * ((dec (b.take 72)).2 :: q').length)).length:=by
    rw [List.length_take,List.length_cons];have:=hc.1;omega
   rw [scan.scan,e1,e2,if_pos ⟨e3,hc.2⟩,ih]
  ·subst hq
   rw [List.length_nil,Nat.mul_zero,List.take_zero]
   exact scan.scan_short (by simp) _ _ _
theorem scanV_cut {t z:DiskD} {a ep:Int} {k:Nat} (hk:k=72 * (scanV t a ep).length) (h:heldV z a=(heldV t a).take k):scanV z a ep=scanV t a ep:=by
 have h8:=scanV_len t a ep
 have e1:(heldV z a).take 576=((heldV t a).take 576).take k:=by
  rw [h,List.take_take,List.take_take,Nat.min_comm]
 have e2:scanV t a ep=scan.scan ((heldV t a).take 576).length ((heldV t a).take 576) a ep:=rfl
 have h2:=scan_self ((heldV t a).take 576).length ((heldV t a).take 576) a ep
 rw [← e2,← hk] at h2
 rw [← h2]
 show scan.scan ((heldV z a).take 576).length ((heldV z a).take 576) a ep=_
 rw [e1]
 have h3:(((heldV t a).take 576).take k).length≤((heldV t a).take 576).length:=by rw [List.length_take];exact Nat.min_le_right _ _
 exact scan.scan_fuel _ _ _ _ _ (by omega) (by omega)
theorem scan_held {t z:DiskD} {a:Int} (h:heldV z a=heldV t a) (ep:Int):scanV z a ep=scanV t a ep:=by unfold scanV;rw [h]
theorem step_same {t z:DiskD} {a:Int} {r:RdS} (h:scanV z a r.ep=scanV t a r.ep):stepR z r a=stepR t r a:=by unfold stepR;rw [h]
theorem g_in (t:DiskD):∀ (l:List Int) (r:RdS),readG t l r=r∨(readG t l r).g ∈ l
 | [],r=>.inl rfl
 |a :: l,r=>by
  rw [readG]
  split
  ·exact .inl rfl
  ·split
   ·exact .inl rfl
   ·split
    ·exact .inr (by simp [stepR])
    ·rcases g_in t l (stepR t r a) with e | e
     ·rw [e];exact .inr (by simp [stepR])
     ·exact .inr (List.mem_cons_of_mem _ e)
theorem filt_nil {m:Int} {l:List Int} (h:∀ x ∈ l,m < x):l.filter (fun x=>decide (x≤m))=[]:=List.filter_eq_nil_iff.2 fun x hx=>by rw [decide_eq_true_eq];have:=h x hx;omega
theorem read_pre {t z:DiskD} {m:Int} : ∀ (l:List Int) (r:RdS),l.Pairwise (· < ·)→(∀ a ∈ l,a≤m→heldV z a=heldV t a)→(readG t l r).g≤m→readG z (l.filter fun x=>decide (x≤m)) r=readG t l r
 | [],r,_,_,_=>rfl
 |a :: l,r,hp,hh,hg=>by
  obtain ⟨p1,p2⟩:=List.pairwise_cons.1 hp
  by_cases ha:a≤m
  ·have hs:=scan_held (hh a (by simp) ha) r.ep
   rw [List.filter_cons_of_pos (by rw [decide_eq_true_eq];exact ha)]
   rw [readG] at hg
   rw [readG,readG,hs,hh a (by simp) ha,step_same hs]
   by_cases h1:r.g≠0∧a≠r.n
   ·rw [if_pos h1,if_pos h1]
   ·rw [if_neg h1] at hg;rw [if_neg h1,if_neg h1]
    by_cases h2:(scanV t a r.ep).length=0
    ·rw [if_pos h2,if_pos h2]
    ·rw [if_neg h2] at hg;rw [if_neg h2,if_neg h2]
     by_cases h3:72 * (scanV t a r.ep).length < (heldV t a).length
     ·rw [if_pos h3,if_pos h3]
     ·rw [if_neg h3] at hg;rw [if_neg h3,if_neg h3]
      exact read_pre l _ p2 (fun x hx=>hh x (List.mem_cons_of_mem _ hx)) hg
  ·have hall:∀ x ∈ a :: l,m < x:=fun x hx=>by
    rcases List.mem_cons.1 hx with rfl | hx
    ·omega
    ·have:=p1 x hx;omega
   rw [filt_nil hall]
   rcases g_in t (a :: l) r with e | e
   ·rw [e];rfl
   ·have:=hall _ e;omega
theorem read_cut {t z:DiskD} {g c:Int} (hz:heldV z g=(heldV t g).take (c * 72).toNat) (hlt:c * 72 < ((heldV t g).length:Int)):∀ (l:List Int) (r:RdS),l.Pairwise (· < ·)→(∀ a ∈ l,a < g→heldV z a=heldV t a)→(readG t l r).g=g→(readG t l r).c=c→r.g < g→readG z (l.filter fun x=>decide (x≤g)) r=readG t l r
 | [],r,_,_,hg,_,h0=>by have:r.g=g:=hg;omega
 |a :: l,r,hp,hh,hg,hc,h0=>by
  obtain ⟨p1,p2⟩:=List.pairwise_cons.1 hp
  rcases Int.lt_trichotomy a g with ha | ha | ha
  ·have hs:=scan_held (hh a (by simp) ha) r.ep
   rw [List.filter_cons_of_pos (by rw [decide_eq_true_eq];omega)]
   rw [readG] at hg hc
   rw [readG,readG,hs,hh a (by simp) ha,step_same hs]
   by_cases h1:r.g≠0∧a≠r.n
   ·rw [if_pos h1,if_pos h1]
   ·rw [if_neg h1] at hg hc;rw [if_neg h1,if_neg h1]
    by_cases h2:(scanV t a r.ep).length=0
    ·rw [if_pos h2,if_pos h2]
    ·rw [if_neg h2] at hg hc;rw [if_neg h2,if_neg h2]
     by_cases h3:72 * (scanV t a r.ep).length < (heldV t a).length
     ·rw [if_pos h3,if_pos h3]
     ·rw [if_neg h3] at hg hc;rw [if_neg h3,if_neg h3]
      exact read_cut hz hlt l _ p2 (fun x hx=>hh x (List.mem_cons_of_mem _ hx)) hg hc ha
  ·subst ha
   rw [List.filter_cons_of_pos (by rw [decide_eq_true_eq];omega),filt_nil p1]
   have hR:readG t (a :: l) r=if r.g≠0∧a≠r.n then r else if (scanV t a r.ep).length=0 then r else if 72 * (scanV t a r.ep).length < (heldV t a).length then stepR t r a else readG t l (stepR t r a):=rfl
   have hZ:readG z [a] r=if r.g≠0∧a≠r.n then r else if (scanV z a r.ep).length=0 then r else if 72 * (scanV z a r.ep).length < (heldV z a).length then stepR z r a else stepR z r a:=rfl
   rw [hR] at hg hc
   rw [hR,hZ]
   by_cases h1:r.g≠0∧a≠r.n
   ·rw [if_pos h1] at hg;omega
   ·rw [if_neg h1] at hg hc;rw [if_neg h1,if_neg h1]
    by_cases h2:(scanV t a r.ep).length=0
    ·rw [if_pos h2] at hg;omega
    ·rw [if_neg h2] at hg hc
     have hst:(if 72 * (scanV t a r.ep).length < (heldV t a).length then stepR t r a else readG t l (stepR t r a))=stepR t r a:=by
      split
      ·rfl
      ·rename_i h3
       rcases g_in t l (stepR t r a) with e | e
       ·exact e
       ·rw [if_neg h3] at hg
        rw [hg] at e
        have:=p1 a e;omega
     rw [hst] at hc
     have hc2:((scanV t a r.ep).length:Int)=c:=hc
     have hk:(c * 72).toNat=72 * (scanV t a r.ep).length:=by omega
     have hs:=scanV_cut hk hz
     have hlen:(heldV z a).length=(c * 72).toNat:=by rw [hz,List.length_take];omega
     rw [hs,if_neg h2,if_neg h2,hst,ite_self,step_same hs]
  ·rcases g_in t (a :: l) r with e | e
   ·rw [e] at hg;omega
   ·rw [hg] at e
    rcases List.mem_cons.1 e with e | e
    ·omega
    ·have:=p1 g e;omega
theorem step_u {t:DiskD} {a:Int} {r:RdS} (h:(scanV t a r.ep).length≠0):(stepR t r a).u=a+((scanV t a r.ep).length:Int) - 1∧(stepR t r a).n=(stepR t r a).u+1∧(stepR t r a).g=a:=⟨scanV_lsn h,rfl,rfl⟩
theorem read_up {t:DiskD} : ∀ (l:List Int) (r:RdS),(∀ a ∈ l,1≤a)→(r.u=0∨(r.g≠0∧r.n=r.u+1))→r.u≤(readG t l r).u
 | [],r,_,_=>Int.le_refl _
 |a :: l,r,h1,hr=>by
  have ha:=h1 a (by simp)
  rw [readG]
  by_cases c1:r.g≠0∧a≠r.n
  ·rw [if_pos c1];exact Int.le_refl _
  ·rw [if_neg c1]
   by_cases c2:(scanV t a r.ep).length=0
   ·rw [if_pos c2];exact Int.le_refl _
   ·rw [if_neg c2]
    obtain ⟨u1,u2,u3⟩:=step_u c2
    have hle:r.u≤(stepR t r a).u:=by omega
    by_cases c3:72 * (scanV t a r.ep).length < (heldV t a).length
    ·rw [if_pos c3];exact hle
    ·rw [if_neg c3]
     exact Int.le_trans hle (read_up l _ (fun x hx=>h1 x (List.mem_cons_of_mem _ hx)) (.inr ⟨by omega,u2⟩))
theorem read_le {t z:DiskD} {m:Int} : ∀ (l:List Int) (r:RdS),l.Pairwise (· < ·)→(∀ a ∈ l,1≤a)→(∀ a ∈ l,a≤m→heldV z a=heldV t a)→(r.u=0∨(r.g≠0∧r.n=r.u+1))→(readG z (l.filter fun x=>decide (x≤m)) r).u≤(readG t l r).u
 | [],r,_,_,_,_=>Int.le_refl _
 |a :: l,r,hp,h1,hh,hr=>by
  obtain ⟨p1,p2⟩:=List.pairwise_cons.1 hp
  have ha1:=h1 a (by simp)
  by_cases ha:a≤m
  ·have hs:=scan_held (hh a (by simp) ha) r.ep
   rw [List.filter_cons_of_pos (by rw [decide_eq_true_eq];exact ha)]
   rw [readG,readG,hs,hh a (by simp) ha,step_same hs]
   by_cases c1:r.g≠0∧a≠r.n
   ·rw [if_pos c1,if_pos c1];exact Int.le_refl _
   ·rw [if_neg c1,if_neg c1]
    by_cases c2:(scanV t a r.ep).length=0
    ·rw [if_pos c2,if_pos c2];exact Int.le_refl _
    ·rw [if_neg c2,if_neg c2]
     obtain ⟨u1,u2,u3⟩:=step_u c2
     by_cases c3:72 * (scanV t a r.ep).length < (heldV t a).length
     ·rw [if_pos c3,if_pos c3];exact Int.le_refl _
     ·rw [if_neg c3,if_neg c3]
      exact read_le l _ p2 (fun x hx=>h1 x (List.mem_cons_of_mem _ hx)) (fun x hx=>hh x (List.mem_cons_of_mem _ hx)) (.inr ⟨by omega,u2⟩)
  ·have hall:∀ x ∈ a :: l,m < x:=fun x hx=>by
    rcases List.mem_cons.1 hx with rfl | hx
    ·omega
    ·have:=p1 x hx;omega
   rw [filt_nil hall]
   exact read_up _ _ h1 hr
end Go.Proofs.YtalhdalinpdanaaGreatDoor.wal
end
section
namespace Go.Proofs.YtalhdalinpdanaaGreatDoor.wal
set_option maxRecDepth 20000
open Go.RowKit Go.Proofs.YtalhdalinpdanaaGreatDoor Go.Proofs.YtalhdalinpdanaaGreatDoor.frame Go.Proofs.YtalhdalinpdanaaGreatDoor.disk
theorem held_zero {fs:List FileD} (h:∀ f ∈ fs,fileOk f=true):heldF fs 0=[]:=by
 unfold heldF
 rcases old_cases (nameV 0) fs with ⟨h1,_⟩ | ⟨f,h1,h2,h3,h4⟩
 ·rw [h1]
 ·have hok:=h f h3
  unfold fileOk at hok
  simp only [Bool.and_eq_true] at hok
  have:=hok.1.1.1
  rw [h4] at this
  exact absurd this (by decide)
theorem cut_zero0 {fs:List FileD} {c:Int} (hc:0≤c) (h:∀ f ∈ fs,fileOk f=true):cutTo 0 c fs=fs:=by
 unfold cutTo
 rw [held_zero h,if_neg (by simp only [List.length_nil];omega)]
theorem ok_keep {m:Int} {fs:List FileD} (h:∀ f ∈ fs,fileOk f=true):∀ f ∈ keepTo m fs,fileOk f=true:=fun f hf=>h f (mem_keep.1 hf).1
theorem keep_cut {fs:List FileD} {g k m:Int} (hr:Row fs) (hm:0≤m∧m < g) (hg:g≤1000000000):keepTo m (cutTo g k fs)=keepTo m fs:=by
 unfold cutTo
 split
 ·unfold cutF
  have hnm:=old_name (nameV g) fs
  have hng:numOf (nameV g)=g:=by rw [nameV_in (by omega),numOf_name (by omega) hg]
  refine Row.ext (row_keep (row_with _ hr)) (row_keep hr) fun f=>?_
  rw [mem_keep,mem_keep,mem_with hr]
  constructor
  ·rintro ⟨rfl | ⟨h1,h2⟩,h3⟩
   ·have h4:numOf (oldOf (nameV g) fs).name≤m:=h3
    rw [hnm,hng] at h4;omega
   ·exact ⟨h1,h3⟩
  ·rintro ⟨h1,h3⟩
   refine ⟨.inr ⟨h1,fun e=>?_⟩,h3⟩
   have h4:f.name=(oldOf (nameV g) fs).name:=e
   rw [h4,hnm,hng] at h3;omega
 ·rfl
theorem keep0 {fs:List FileD} {g c:Int} (hr:Row fs) (hok:∀ f ∈ fs,fileOk f=true) (hg:0≤g∧g≤1000000000) (hc:0≤c):keepTo 0 (cutTo g c (keepTo g fs))=keepTo 0 fs:=by
 rcases Int.lt_or_le 0 g with h | h
 ·rw [keep_cut (row_keep hr) ⟨Int.le_refl _,h⟩ hg.2,keep_keep,show min 0 g=0 by omega]
 ·obtain rfl:g=0:=by omega
  rw [cut_zero0 hc (ok_keep hok),keep_keep];rfl
def fin (t:DiskD) (b:Int):List FileD:=if isNew t b then keepTo 0 t.files else cutTo (readL t).g ((readL t).c * 72) (keepTo (readL t).g t.files)
structure Gon (b:Int) (t z:DiskD) (e:Int):Prop where
 f:(∃ m,(readL t).g≤m∧z.files=keepTo m t.files)∨(∃ m,0≤m∧(m=1000000000∨isNew t b)∧z.files=keepTo m (cutTo (readL t).g ((readL t).c * 72) (keepTo (readL t).g t.files)))
 m:z.room=t.room
 ok:e=0→z.files=fin t b∧z.down=false∧(t.fuse = -1→z.fuse = -1)
 no:e≠0→e=9∧t.fuse ≠ -1
 r:rightB z=true
theorem gone_files {t:DiskD} (b:Int) (hr:rightB t=true) (hd:t.down=false):Gon b t (goneL t b).1 (goneL t b).2:=by
 have hrg:=readL_rng t
 have hM:=mend_files (s:=wlOf (readL t)) hrg.g0 hrg.c0.1 hr hd
 have hr2:rightB (mendL (wlOf (readL t)) t).1=true:=mend_right hr
 unfold goneL
 obtain ⟨f,m,ok,no⟩:=hM
 by_cases h:isNew t b∧(mendL (wlOf (readL t)) t).2=0
 ·rw [if_pos h]
  obtain ⟨f2,d2,u2⟩:=ok h.2
  obtain ⟨⟨m3,g1,g2⟩,g3,g4,g5⟩:=removed_files (a:=0) ⟨Int.le_refl _,by decide⟩ hr2 d2
  refine ⟨.inr ⟨m3,g1,.inr h.1,by rw [g2,f2];rfl⟩,g3.trans m,fun he=>?_,fun he=>⟨(g5 he).1,fun hf=>(g5 he).2 (u2 hf)⟩,rem_right hr2⟩
  obtain ⟨k1,k2,k3⟩:=g4 he
  refine ⟨?_,k2,fun hf=>k3 (u2 hf)⟩
  rw [k1,f2]
  unfold fin
  rw [if_pos h.1]
  exact keep0 (right_files hr).2.2.1 (right_files hr).2.1 hrg.g0 (by show 0≤(readL t).c * 72;have:=hrg.c0;omega)
 ·rw [if_neg h]
  refine ⟨?_,m,fun he=>?_,no,hr2⟩
  ·rcases f with f | f
   ·exact .inl f
   ·exact .inr ⟨1000000000,by decide,.inl rfl,f.trans (keep_self fun f _=>num_le _).symm⟩
  ·obtain ⟨k1,k2,k3⟩:=ok he
   refine ⟨?_,k2,k3⟩
   rw [k1]
   unfold fin
   rw [if_neg (fun hn=>h ⟨hn,he⟩)]
   rfl
section
variable {t z:DiskD} {m:Int}
theorem segs_keep (hr:rightB t=true) (hz:rightB z=true) (h:z.files=keepTo m t.files):segs z=(segs t).filter fun x=>decide (x≤m):=by
 refine rise_ext (segs_rise z) ((segs_rise t).filter _) fun x=>?_
 rw [segs_iff hz,List.mem_filter,segs_iff hr,decide_eq_true_eq,h]
 constructor
 ·rintro ⟨h0,f,hf,rfl⟩
  have:=mem_keep.1 hf
  exact ⟨⟨h0,f,this.1,rfl⟩,this.2⟩
 ·rintro ⟨⟨h0,f,hf,rfl⟩,hm⟩
  exact ⟨h0,f,mem_keep.2 ⟨hf,hm⟩,rfl⟩
theorem seg_file {a:Int} (hr:rightB t=true) (ha:a ∈ segs t):∃ f ∈ t.files,f.name=nameV a∧numOf f.name=a∧disk.look (nameV a) t.files=some f:=by
 obtain ⟨h0,f,hf,hfn⟩:=(segs_iff hr).1 ha
 have hnm:f.name=nameV a:=by
  have:=(numOf_is (s:=f.name) (by omega)).1
  rw [hfn] at this
  rw [nameV_in (segs_rng t a ha)];exact this
 exact ⟨f,hf,hnm,hfn,by rw [← hnm];exact look_of (right_files hr).2.2.1 hf⟩
theorem held_keep {a:Int} (hr:rightB t=true) (h:z.files=keepTo m t.files) (ha:a ∈ segs t) (hm:a≤m):heldV z a=heldV t a:=by
 obtain ⟨f,hf,hn,hfn,hl⟩:=seg_file hr ha
 have h2:disk.look (nameV a) z.files=some f:=by
  rw [h,← hn]
  exact look_of (row_keep (right_files hr).2.2.1) (mem_keep.2 ⟨hf,by omega⟩)
 rw [held_f,held_f]
 unfold heldF
 rw [h2,hl]
theorem read_mid1 (hr:rightB t=true) (hz:rightB z=true) (h:z.files=keepTo m t.files) (hm:(readL t).g≤m):readL z=readL t:=by
 show readG z (segs z) rdz=_
 rw [segs_keep hr hz h]
 exact read_pre (segs t) rdz (segs_rise t) (fun a ha hm=>held_keep hr h ha hm) hm
theorem read_mid3 (hr:rightB t=true) (hz:rightB z=true) (h:z.files=keepTo m t.files):(readL z).u≤(readL t).u:=by
 show (readG z (segs z) rdz).u≤_
 rw [segs_keep hr hz h]
 exact read_le (segs t) rdz (segs_rise t) (fun a ha=>(segs_rng t a ha).1) (fun a ha hm=>held_keep hr h ha hm) (.inl rfl)
theorem cut_held {fs:List FileD} {g k:Int} (hrow:Row fs) (hk:0≤k) (h:k < ((heldF fs g).length:Int)):heldF (cutF fs (nameV g) k) g=(heldF fs g).take k.toNat:=by
 obtain ⟨f,h1,h2,h3,h4,h5⟩:=held_some hk h
 have hl:=look_with { oldOf (nameV g) fs with data:=(oldOf (nameV g) fs).data.take k.toNat,sure:=if k < (oldOf (nameV g) fs).sure then k else (oldOf (nameV g) fs).sure } hrow
 have hn:({ oldOf (nameV g) fs with data:=(oldOf (nameV g) fs).data.take k.toNat,sure:=if k < (oldOf (nameV g) fs).sure then k else (oldOf (nameV g) fs).sure } : FileD).name=nameV g:=old_name _ _
 rw [hn] at hl
 unfold heldF cutF
 rw [hl,h1]
 show (oldOf (nameV g) fs).data.take k.toNat=f.data.take k.toNat
 rw [h2]
theorem read_mid2 (hr:rightB t=true) (hz:rightB z=true) (h:z.files=cutTo (readL t).g ((readL t).c * 72) (keepTo (readL t).g t.files)):readL z=readL t:=by
 have hrg:=readL_rng t
 have hrow:=(right_files hr).2.2.1
 unfold cutTo at h
 split at h
 ·rename_i hlt
  have hc:=hrg.c0
  have hin:(readL t).g ∈ segs t:=by
   rcases g_in t (segs t) rdz with e | e
   ·have e2:(readL t).g=0:=by show (readG t (segs t) rdz).g=0;rw [e];rfl
    rw [e2,held_zero (ok_keep (right_files hr).2.1)] at hlt
    simp only [List.length_nil] at hlt;omega
   ·exact e
  have hg:=segs_rng t _ hin
  obtain ⟨y,hy⟩:∃ y:DiskD,y=⟨keepTo (readL t).g t.files,t.room,t.fuse,t.down⟩:=⟨_,rfl⟩
  have hyf:y.files=keepTo (readL t).g t.files:=by rw [hy]
  have hheld:heldF (keepTo (readL t).g t.files) (readL t).g=heldV t (readL t).g:=by rw [← hyf];exact held_keep hr hyf hin (Int.le_refl _)
  have hcut:=cut_held (row_keep (m:=(readL t).g) hrow) (by omega) hlt
  have hz1:heldV z (readL t).g=(heldV t (readL t).g).take ((readL t).c * 72).toNat:=by rw [held_f,h,hcut,hheld]
  rw [hheld] at hlt
  have hnm:=old_name (nameV (readL t).g) (keepTo (readL t).g t.files)
  have hng:numOf (nameV (readL t).g)=(readL t).g:=by rw [nameV_in hg,numOf_name (by omega) hg.2]
  have hsg:segs z=(segs t).filter fun x=>decide (x≤(readL t).g):=by
   refine rise_ext (segs_rise z) ((segs_rise t).filter _) fun x=>?_
   rw [segs_iff hz,List.mem_filter,segs_iff hr,decide_eq_true_eq,h]
   unfold cutF
   constructor
   ·rintro ⟨h0,f,hf,rfl⟩
    rcases (mem_with (row_keep hrow)).1 hf with rfl | ⟨hf,_⟩
    ·show (0 < numOf (oldOf _ _).name∧_)∧_
     rw [hnm,hng]
     exact ⟨(segs_iff hr).1 hin,Int.le_refl _⟩
    ·have:=mem_keep.1 hf
     exact ⟨⟨h0,f,this.1,rfl⟩,this.2⟩
   ·rintro ⟨⟨h0,f,hf,rfl⟩,hm⟩
    by_cases hfn:f.name=nameV (readL t).g
    ·refine ⟨h0,_,(mem_with (row_keep hrow)).2 (.inl rfl),?_⟩
     show numOf (oldOf _ _).name=_
     rw [hnm,hfn]
    ·refine ⟨h0,f,(mem_with (row_keep hrow)).2 (.inr ⟨mem_keep.2 ⟨hf,hm⟩,?_⟩),rfl⟩
     show f.name≠(oldOf _ _).name
     rw [hnm];exact hfn
  show readG z (segs z) rdz=_
  rw [hsg]
  refine read_cut hz1 hlt (segs t) rdz (segs_rise t) (fun a ha hm=>?_) rfl rfl (by show (0:Int) < _;omega)
  obtain ⟨f,hf,hn,hfn,hl⟩:=seg_file hr ha
  have h2:disk.look (nameV a) z.files=some f:=by
   rw [h,← hn]
   refine look_of (row_with _ (row_keep hrow)) ((mem_with (row_keep hrow)).2 (.inr ⟨mem_keep.2 ⟨hf,by omega⟩,?_⟩))
   show f.name≠(oldOf _ _).name
   rw [hnm]
   intro e
   rw [e,hng] at hfn;omega
  rw [held_f,held_f]
  unfold heldF
  rw [h2,hl]
 ·exact read_mid1 hr hz h (Int.le_refl _)
end
end Go.Proofs.YtalhdalinpdanaaGreatDoor.wal
end
section
namespace Go.Proofs.YtalhdalinpdanaaGreatDoor.wal
set_option maxRecDepth 20000
open Go.RowKit Go.Proofs.YtalhdalinpdanaaGreatDoor Go.Proofs.YtalhdalinpdanaaGreatDoor.frame Go.Proofs.YtalhdalinpdanaaGreatDoor.disk
def newW (t:DiskD) (b:Int):Wl:=if isNew t b then ⟨1,b+1,b,0,0,[]⟩ else wlOf (readL t)
theorem new_keep {t:DiskD} {b:Int} (hb:0≤b) (h:isNew t b):keepD (b+1) (readL t).all=[]:=by
 obtain ⟨K,hK⟩:=rq t
 unfold keepD
 refine List.filter_eq_nil_iff.2 fun f hf=>?_
 rw [Bool.not_eq_true',decide_eq_false_iff_not,Int.not_lt,Int.not_le]
 rw [hK.all] at hf
 rcases Nat.eq_zero_or_pos K with h0 | h0
 ·rw [(hK.z h0).2] at hf;cases hf
 ·have h1:=hK.s f hf
  obtain ⟨h2,h3,_,h4,h5⟩:=hK.p h0
  rcases h with h | h
  ·have h6:(readL t).g=0:=h
   have h7:=readL_rng t
   rw [hK.g h0] at h6
   have hi:K - 1 < (segs t).length:=by
    have k2:=hK.m;have k1:=hK.k
    split at k1<;>omega
   have:=seg_rng (segs_rng t) hi
   omega
  ·have h6:(readL t).u < b:=h
   omega
theorem open_plain {t:DiskD} {b:Int} (hp:Plain t) (ho:opensL t b=0) (he:isNew t b∨(readL t).e≤1000000):openL t b=(newW t b,⟨fin t b,t.room, -1,false⟩,keepD (b+1) (readL t).all,0):=by
 obtain ⟨_,m,ok,no,r⟩:=gone_files b hp.1 hp.2.1
 have h0:(goneL t b).2=0:=by
  by_cases h:(goneL t b).2=0
  ·exact h
  ·exact absurd hp.2.2 (no h).2
 obtain ⟨f2,d2,u2⟩:=ok h0
 have e1:(goneL t b).1=⟨fin t b,t.room, -1,false⟩:=by
  have:=u2 hp.2.2
  rcases hg:(goneL t b).1 with ⟨a1,a2,a3,a4⟩
  rw [hg] at m f2 d2 this
  simp only at m f2 d2 this
  rw [m,f2,d2,this]
 unfold openL newW
 rw [if_neg (by rw [ho];simp),if_neg (fun h=>he.elim h.1 (fun h2=>by have h3:1000000 < (readL t).e:=h.2;omega)),if_neg (by rw [h0];simp),e1]
section
variable {t z:DiskD} {b:Int}
theorem new_of (h:readL z=readL t):isNew z b ↔ isNew t b:=by unfold isNew;rw [h]
theorem fin_mid1 {m:Int} (h:z.files=keepTo m t.files) (hr:readL z=readL t) (hm:(readL t).g≤m) (h0:0≤m):fin z b=fin t b:=by
 unfold fin
 by_cases hn:isNew t b
 ·rw [if_pos hn,if_pos ((new_of hr).2 hn),h,keep_keep,show min 0 m=0 by omega]
 ·rw [if_neg hn,if_neg (fun h=>hn ((new_of hr).1 h)),hr,h,keep_keep,show min (readL t).g m=(readL t).g by omega]
end
end Go.Proofs.YtalhdalinpdanaaGreatDoor.wal
end
