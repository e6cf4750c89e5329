/-
  WalP, WalJ2
-/
import Derived.Test.YtalhdalinpdanaaGreatDoorMwl36
import Derived.Test.YtalhdalinpdanaaGreatDoorMwl18
import Derived.Test.YtalhdalinpdanaaGreatDoorMwl34
import Derived.Test.YtalhdalinpdanaaGreatDoorMwl33
set_option linter.unusedVariables false
set_option linter.unusedSimpArgs false
section
namespace Go.Proofs.YtalhdalinpdanaaGreatDoor.wal
set_option maxRecDepth 20000
open Go.RowKit Go.Proofs.YtalhdalinpdanaaGreatDoor Go.Proofs.YtalhdalinpdanaaGreatDoor.frame Go.Proofs.YtalhdalinpdanaaGreatDoor.disk
theorem named_name (n:Int):named (nameOf n)=true:=by
 have e:(nameOf n).data.toList=(nameL n.toNat).map Nat.toUInt8:=rfl
 have hs:(nameOf n).size=14:=by
  show (nameOf n).data.size=14
  rw [← Array.length_toList,e,List.length_map,nameL_len]
 unfold named
 rw [e,hs]
 simp only [Bool.and_eq_true,decide_eq_true_eq,List.all_eq_true,List.mem_map]
 refine ⟨⟨?_,by omega⟩,by omega⟩
 rintro c ⟨x,hx,rfl⟩
 unfold nameL at hx
 rcases List.mem_append.1 hx with hx | hx
 ·simp at hx
  rcases hx with rfl | rfl | rfl | rfl<;>decide
 ·have h1:=List.all_eq_true.1 (dg_digit 10 n.toNat) x hx
  unfold digit at h1
  simp only [Bool.and_eq_true,decide_eq_true_eq] at h1
  have hc:∀ x:Nat,x < 58→48≤x→signOk x.toUInt8=true:=by decide
  exact hc x (by omega) h1.1
def fileN (fs:List FileD) (nm:ByteArray) (b:List Nat):FileD:=⟨nm,(oldOf nm fs).data++b,(((oldOf nm fs).data++b).length:Nat)⟩
def addF (fs:List FileD) (nm:ByteArray) (b:List Nat):List FileD:=withF (fileN fs nm b) fs
def addD (d:DiskD) (nm:ByteArray) (b:List Nat):DiskD:=⟨addF d.files nm b,d.room, -1,false⟩
theorem plain_row {d:DiskD} (h:Plain d):Row d.files:=(right_files h.1).2.2.1
theorem old_appF {fs:List FileD} {nm:ByteArray} {b:List Nat} (h:Row fs):oldOf nm (appF fs nm b) = { oldOf nm fs with data:=(oldOf nm fs).data++b }:=by
 have:=look_appF (nm:=nm) (b:=b) h
 unfold oldOf at this ⊢
 rw [this];rfl
theorem plain_write {d:DiskD} (h:Plain d) {nm:ByteArray} {b:List Nat} (hn:named nm=true) (hu:((used d.files+b.length:Nat):Int)≤d.room) (hl:disk.look nm d.files=none→d.files.length < 64) :
  ∃ x,appendD d nm b=(x,0)∧syncD x nm=(addD d nm b,0)∧Plain (addD d nm b):=by
 have hrow:=plain_row h
 have e1:appendD d nm b=(⟨appF d.files nm b,d.room, -1,false⟩,0):=by
  unfold appendD
  rw [plain_op h,hn,appE_iff.2 ⟨hu,hl⟩]
  rfl
 have hp:Plain ⟨appF d.files nm b,d.room, -1,false⟩:=by
  have:=right_append (nm:=nm) (b:=b) h.1
  rw [e1] at this
  exact ⟨this,rfl,rfl⟩
 have e2:syncD ⟨appF d.files nm b,d.room, -1,false⟩ nm=(addD d nm b,0):=by
  unfold syncD
  rw [plain_op hp,hn]
  have hne:noE (appF d.files nm b) nm=0:=by
   unfold noE
   rw [look_appF hrow,if_neg (by simp)]
  show (if (true && true)=true then (if noE (appF d.files nm b) nm≠0 then _ else _) else _)=_
  rw [hne]
  show (DiskD.mk (syncF (appF d.files nm b) nm) d.room (-1) false,(0:Int))=_
  unfold addD addF fileN syncF
  rw [old_appF hrow]
  unfold appF
  rw [with_with hrow (by exact rfl)]
  have hnm:=old_name nm d.files
  simp only [hnm]
 refine ⟨_,e1,e2,?_⟩
 have:=right_sync (nm:=nm) hp.1
 rw [e2] at this
 exact ⟨this,rfl,rfl⟩
theorem look_add {d:DiskD} (h:Plain d) (nm:ByteArray) (b:List Nat):disk.look nm (addF d.files nm b)=some (fileN d.files nm b):=look_with (fileN d.files nm b) (plain_row h)
theorem old_add {d:DiskD} (h:Plain d) (nm:ByteArray) (b:List Nat):oldOf nm (addF d.files nm b)=fileN d.files nm b:=by
 unfold oldOf;rw [look_add h];rfl
theorem add_add {d:DiskD} (h:Plain d) (nm:ByteArray) (a b:List Nat):addD (addD d nm a) nm b=addD d nm (a++b):=by
 unfold addD
 show DiskD.mk (withF (fileN (addF d.files nm a) nm b) (addF d.files nm a)) _ _ _=_
 have e:fileN (addF d.files nm a) nm b=fileN d.files nm (a++b):=by
  unfold fileN
  rw [old_add h]
  simp [fileN,List.append_assoc]
 rw [e]
 unfold addF
 rw [with_with (f:=fileN d.files nm a) (g:=fileN d.files nm (a++b)) (plain_row h) rfl]
theorem mem_add {d:DiskD} (h:Plain d) {nm:ByteArray} {b:List Nat} {f:FileD} : f ∈ addF d.files nm b ↔ f=fileN d.files nm b∨(f ∈ d.files∧f.name≠nm):=mem_with (plain_row h)
theorem used_add {d:DiskD} (h:Plain d) (nm:ByteArray) (b:List Nat):used (addF d.files nm b)=used d.files+b.length∧(addF d.files nm b).length≤d.files.length+1∧(disk.look nm d.files≠none→(addF d.files nm b).length=d.files.length):=by
 have hr:=plain_row h
 have hnn:(fileN d.files nm b).name=nm:=rfl
 have hd:(fileN d.files nm b).data.length=(oldOf nm d.files).data.length+b.length:=by unfold fileN;simp
 unfold addF
 rcases old_cases nm d.files with ⟨e1,e2⟩ | ⟨f,e1,e2,e3,e4⟩
 ·have h2:=with_new (fileN d.files nm b) hr (by rw [hnn];exact look_none e1)
  rw [e2] at hd
  refine ⟨by rw [h2.1,hd];simp,by rw [h2.2];omega,fun hl=>absurd e1 hl⟩
 ·have h2:=with_old (fileN d.files nm b) f hr e3 (by rw [hnn];exact e4)
  rw [e2] at hd
  have:=h2.1
  exact ⟨by omega,by rw [h2.2];omega,fun _=>h2.2⟩
inductive Done:Wl→DiskD→Wl→DiskD→Prop
 |nil {s:Wl} {t:DiskD} (h:s.ws=[]):Done s t s t
 |step {s s' : Wl} {t t' : DiskD} (h:s.ws≠[]) (d:Done (stepW s) (addD t (nameOf (stepW s).g) (scan.put (s.ws.take (room s)))) s' t'):Done s t s' t'
structure Bud (s:Wl) (t:DiskD):Prop where
 p:Plain t
 r:right s=true
 u:((used t.files+72 * s.ws.length:Nat):Int)≤t.room
 l:t.files.length+s.ws.length≤64
theorem step_ws (s:Wl):(stepW s).ws=s.ws.drop (room s):=rfl
theorem room_pos {s:Wl} (hr:right s=true) (hne:s.ws≠[]):1≤room s:=by
 have h1:=room_eq hr (⟨rfl,rfl⟩:StepIs s (begun s).g (begun s).c);have h2:=step_rng hr (⟨rfl,rfl⟩:StepIs s (begun s).g (begun s).c);have:=ws_pos hne
 rw [h1];omega
theorem put_len' (s:Wl):(scan.put (s.ws.take (room s))).length=72 * room s:=by
 rw [scan.put_len,List.length_take,Nat.min_eq_left (room_le s)]
theorem bud_write {s:Wl} {t:DiskD} (h:Bud s t) (hne:s.ws≠[]):writeW s t=(stepW s,addD t (nameOf (stepW s).g) (scan.put (s.ws.take (room s))),0)∧Bud (stepW s) (addD t (nameOf (stepW s).g) (scan.put (s.ws.take (room s)))):=by
 have hle:=room_le s;have hp:=ws_pos hne;have hl:=put_len' s;have h1:=h.u;have h2:=h.l;have h3:=room_pos h.r hne
 obtain ⟨x,e1,e2,e3⟩:=plain_write h.p (named_name (stepW s).g) (b:=scan.put (s.ws.take (room s))) (by rw [hl];omega) (fun _=>by omega)
 have hu:=used_add h.p (nameOf (stepW s).g) (scan.put (s.ws.take (room s)))
 have hw:(stepW s).ws.length=s.ws.length - room s:=by rw [step_ws,List.length_drop]
 refine ⟨?_,e3,(step_right h.r hne).1,?_,?_⟩
 ·unfold writeW
  simp only [e1,e2,if_true]
 ·show ((used (addF t.files _ _)+72 * (stepW s).ws.length:Nat):Int)≤t.room
  rw [hu.1,hl,hw];omega
 ·show (addF t.files _ _).length+(stepW s).ws.length≤64
  have:=hu.2.1
  rw [hw];omega
theorem step_ne (s:Wl):(stepW s).n=s.n∧(stepW s).e=s.e:=by unfold stepW begun;split<;>exact ⟨rfl,rfl⟩
theorem commit_done:∀ (k:Nat) (s:Wl) (t:DiskD),Bud s t→s.ws.length≤k→∃ s' t',Done s t s' t'∧commitA k s t=(s',t',0)∧Bud s' t'∧s'.ws=[]∧s'.n=s.n∧s'.e=s.e
 | 0,s,t,h,hk=>⟨s,t,.nil (List.eq_nil_of_length_eq_zero (by omega)),rfl,h,List.eq_nil_of_length_eq_zero (by omega),rfl,rfl⟩
 |k+1,s,t,h,hk=>by
  unfold commitA
  by_cases hne:s.ws=[]
  ·rw [if_pos hne];exact ⟨s,t,.nil hne,rfl,h,hne,rfl,rfl⟩
  ·obtain ⟨e,hb⟩:=bud_write h hne
   have h1:=(step_right h.r hne).2
   obtain ⟨s',t',h2,h3,h4,h5,h6,h7⟩:=commit_done k _ _ hb (by omega)
   rw [if_neg hne,e,if_pos rfl]
   exact ⟨s',t',.step hne h2,h3,h4,h5,h6.trans (step_ne s).1,h7.trans (step_ne s).2⟩
theorem Done.uniq {s a b:Wl} {t x y:DiskD} (h:Done s t a x) (h2:Done s t b y):a=b∧x=y:=by
 induction h with
 |nil e =>
  cases h2 with
  |nil _=>exact ⟨rfl,rfl⟩
  |step hne _=>exact absurd e hne
 |step hne d ih =>
  cases h2 with
  |nil e=>exact absurd e hne
  |step _ d2=>exact ih d2
abbrev wit (s:Wl) (n:Int) (ws:List FrameD):Wl:=⟨s.e,n,s.u,s.g,s.c,ws⟩
theorem begun_wit (s:Wl) (n:Int) (ws:List FrameD):(begun (wit s n ws)).g=(begun s).g∧(begun (wit s n ws)).c=(begun s).c∧(begun (wit s n ws)).u=s.u∧(begun (wit s n ws)).n=n∧(begun (wit s n ws)).e=s.e:=by
 unfold begun
 by_cases h:s.g=0∨s.c=8
 ·simp [h]
 ·simp [h]
theorem step_wit {s:Wl} {n:Int} {ws:List FrameD} {r:Nat} (h:room (wit s n ws)=r):stepW (wit s n ws)=⟨s.e,n,s.u+(r:Int),(begun s).g,(begun s).c+(r:Int),ws.drop r⟩:=by
 obtain ⟨h1,h2,h3,h4,h5⟩:=begun_wit s n ws
 show (⟨(begun (wit s n ws)).e,(begun (wit s n ws)).n,s.u+(room (wit s n ws):Int),(begun (wit s n ws)).g,(begun (wit s n ws)).c+(room (wit s n ws):Int),ws.drop (room (wit s n ws))⟩:Wl)=_
 rw [h,h1,h2,h4,h5]
theorem room_wit (s:Wl) (n:Int) (ws:List FrameD):room (wit s n ws)=min ws.length (8 - (begun s).c).toNat:=by
 unfold room;rw [(begun_wit s n ws).2.1]
theorem done_parts {n' : Int} {B:List FrameD} {s s1:Wl} {t t1:DiskD} (h:Done s t s1 t1):Bud s t→∀ {s2 t2},Done (wit s1 n' B) t1 s2 t2→Done (wit s n' (s.ws++B)) t s2 t2:=by
 induction h with
 |nil e =>
  intro hb s2 t2 h2
  rw [e];exact h2
 | @step s s' t t' hne d ih =>
  intro hb s2 t2 h2
  have hr:=hb.r;have hp:=hb.p
  have hwne:s.ws++B≠[]:=fun e=>hne (List.append_eq_nil_iff.1 e).1
  have hpos:=ws_pos hne
  have hst:StepIs s (begun s).g (begun s).c:=⟨rfl,rfl⟩
  have hrng:=step_rng hr hst
  have hf:=right_facts hr
  have hrm:room s=min s.ws.length (8 - (begun s).c).toNat:=room_eq hr hst
  have hlap:(s.ws++B).length=s.ws.length+B.length:=List.length_append
  have hrm2:room (wit s n' (s.ws++B))=min (s.ws.length+B.length) (8 - (begun s).c).toNat:=by rw [room_wit,hlap]
  have hse:stepW s=⟨s.e,s.n,s.u+(room s:Int),(begun s).g,(begun s).c+(room s:Int),s.ws.drop (room s)⟩:=step_wit (s:=s) (n:=s.n) (ws:=s.ws) (r:=room s) rfl
  have hbw:=(bud_write hb hne).2
  have hpl:=hbw.p
  refine Done.step hwne ?_
  by_cases hcase:(8 - (begun s).c).toNat≤s.ws.length
  ·have hr2:room (wit s n' (s.ws++B))=room s:=by rw [hrm2,hrm];omega
   have hle:=room_le s
   have e1:stepW (wit s n' (s.ws++B))=wit (stepW s) n' ((stepW s).ws++B):=by
    rw [step_wit hr2,hse,List.drop_append_of_le_length hle]
   have e2:(s.ws++B).take (room s)=s.ws.take (room s):=List.take_append_of_le_length hle
   have:=ih hbw h2
   rw [e1,hr2]
   show Done _ (addD t (nameOf (stepW s).g) (scan.put ((s.ws++B).take (room s)))) s2 t2
   rw [e2]
   exact this
  ·have hrA:room s=s.ws.length:=by rw [hrm];omega
   have hnil:(stepW s).ws=[]:=by rw [step_ws,hrA,List.drop_length]
   obtain ⟨rfl,rfl⟩:=d.uniq (.nil hnil)
   have htk:s.ws.take (room s)=s.ws:=by rw [hrA,List.take_length]
   rw [htk] at h2 hpl
   have hc1:(begun s).c+(room s:Int)≠8:=by omega
   have hg1:(begun s).g≠0:=by omega
   cases B with
   |nil =>
    have hr2:room (wit s n' (s.ws++[]))=room s:=by rw [hrm2,hrm];simp
    have e1:stepW (wit s n' (s.ws++[]))=wit (stepW s) n' []:=by
     rw [step_wit hr2,hse,List.append_nil,hrA,List.drop_length]
    rw [e1,hr2,List.append_nil]
    show Done _ (addD t (nameOf (stepW s).g) (scan.put (s.ws.take (room s)))) s2 t2
    rw [htk]
    exact h2
   |cons b B =>
    cases h2 with
    |nil e=>exact absurd e (by simp)
    |step _ h2 =>
     have hbg:begun (wit (stepW s) n' (b :: B))=wit (stepW s) n' (b :: B):=by
      unfold begun
      rw [if_neg]
      rw [hse]
      show ¬ ((begun s).g=0∨(begun s).c+(room s:Int)=8)
      omega
     have hC:(begun (stepW s)).c=(begun s).c+(room s:Int)∧(begun (stepW s)).g=(begun s).g:=by
      obtain ⟨h1,h2,_⟩:=begun_wit (stepW s) n' (b :: B)
      rw [← h1,← h2,hbg,hse]
      exact ⟨rfl,rfl⟩
     obtain ⟨q,hq'⟩:∃ q,room (wit (stepW s) n' (b :: B))=q:=⟨_,rfl⟩
     have hq2:q=min (b :: B).length (8 - ((begun s).c+(room s:Int))).toNat:=by rw [← hq',room_wit,hC.1]
     have hr2:room (wit s n' (s.ws++b :: B))=s.ws.length+q:=by rw [hrm2,hq2,hrA];omega
     have e1:stepW (wit s n' (s.ws++b :: B))=stepW (wit (stepW s) n' (b :: B)):=by
      rw [step_wit hr2,step_wit hq',hC.1,hC.2,hse]
      simp only [hrA,Wl.mk.injEq,true_and]
      refine ⟨by push_cast;omega,by push_cast;omega,?_⟩
      rw [List.drop_append,List.drop_eq_nil_of_le (by omega)]
      simp
     have e2:(s.ws++b :: B).take (s.ws.length+q)=s.ws++(b :: B).take q:=by
      rw [List.take_append,List.take_of_length_le (by omega)]
      simp
     have e3:(stepW (wit (stepW s) n' (b :: B))).g=(stepW s).g:=by
      rw [step_wit hq',hC.2,hse]
     rw [e1,hr2,e3]
     rw [hq',e3] at h2
     show Done _ (addD t (nameOf (stepW s).g) (scan.put ((s.ws++b :: B).take (s.ws.length+q)))) s2 t2
     rw [e2,scan.put_append,← add_add hp]
     exact h2
theorem segs_iff {t:DiskD} (hr:rightB t=true) {n:Int} : n ∈ segs t ↔ 0 < n∧∃ f ∈ t.files,numOf f.name=n:=by
 unfold segs
 rw [if_pos hr,List.mem_filter,List.mem_map]
 simp only [decide_eq_true_eq]
 constructor
 ·rintro ⟨⟨f,h1,h2⟩,h3⟩;exact ⟨h3,f,h1,h2⟩
 ·rintro ⟨h3,f,h1,h2⟩;exact ⟨⟨f,h1,h2⟩,h3⟩
theorem fits_iff {s:Wl} {t:DiskD} : fitsL s t=true ↔ right s=true∧rightB t=true∧(∀ x ∈ segs t,x≤s.u)∧(s.g=0∨((heldV t s.g).length:Int)=s.c * 72):=by
 unfold fitsL
 simp only [Bool.and_eq_true,Bool.or_eq_true,decide_eq_true_eq,Bool.not_eq_true',List.any_eq_false,Int.not_lt]
 constructor
 ·rintro ⟨⟨h1,h2⟩,h3,h4⟩;exact ⟨h1,h2,h3,h4⟩
 ·rintro ⟨h1,h2,h3,h4⟩;exact ⟨⟨h1,h2⟩,h3,h4⟩
theorem held_look {t:DiskD} {g:Int} (hg:1≤g∧g≤1000000000):heldV t g=(oldOf (nameOf g) t.files).data:=by
 unfold heldV oldOf nameV
 rw [if_pos hg]
 cases disk.look (nameOf g) t.files<;>rfl
theorem last_all:∀ (l:List FrameD) (e:Int),(∀ f ∈ l,f.e=e)→scan.last l e=e
 | [],_,_=>rfl
 |f :: l,e,h=>by rw [scan.last_cons,h f (by simp)];exact last_all l e (fun g hg=>h g (by simp [hg]))
theorem put_right {s:Wl} {k b0 b1 b2 b3 b4 b5:Int} (hr:right s=true) (h:¬ (k < 1∨6 < k)∧¬ 1000000000 < s.n∧¬ 32≤s.ws.length):right (wit s (s.n+1) (s.ws++[newF s k b0 b1 b2 b3 b4 b5]))=true:=by
 have hf:=right_facts hr
 have hr0:=hr
 rw [right_split] at hr
 unfold waitsL at hr
 simp only [Bool.and_eq_true,decide_eq_true_eq,Bool.not_eq_true'] at hr
 obtain ⟨⟨_,⟨_,hrow⟩,hany⟩,hseg⟩:=hr
 have hall:∀ f ∈ s.ws,f.e=s.e:=fun f hf=>by
  have:=(List.any_eq_false.1 hany) f hf
  simpa using this
 refine right_yes (by simp only;omega) (waits_yes ?_ ?_ ?_) hseg
 ·simp only [List.length_append,List.length_singleton];omega
 ·show scan.row (s.ws++[newF s k b0 b1 b2 b3 b4 b5]) (s.u+1) s.e=true
  rw [scan.row_append,hrow,last_all _ _ hall]
  simp only [Bool.true_and]
  refine (scan.row_cons _ _ _ _).2 ⟨?_,?_,Int.le_refl _,rfl⟩
  ·unfold frame.right newF
   exact decide_eq_true (by simp only;omega)
  ·show s.n=_;omega
 ·show (s.ws++[newF s k b0 b1 b2 b3 b4 b5]).any _=false
  rw [List.any_append,hany]
  show (!decide (s.e=s.e) || false)=false
  simp
theorem put_fits {s:Wl} {t:DiskD} {k b0 b1 b2 b3 b4 b5:Int} (hf:fitsL s t=true) (h:¬ (k < 1∨6 < k)∧¬ 1000000000 < s.n∧¬ 32≤s.ws.length):fitsL (wit s (s.n+1) (s.ws++[newF s k b0 b1 b2 b3 b4 b5])) t=true:=by
 obtain ⟨h1,h2,h3,h4⟩:=fits_iff.1 hf
 exact fits_iff.2 ⟨put_right h1 h,h2,h3,h4⟩
theorem done_used {s s' : Wl} {t t' : DiskD} (h:Done s t s' t'):Bud s t→used t'.files≤used t.files+72 * s.ws.length∧t'.files.length≤t.files.length+s.ws.length∧t'.room=t.room:=by
 induction h with
 |nil e=>intro _;exact ⟨by omega,by omega,rfl⟩
 | @step s s' t t' hne d ih =>
  intro hb
  obtain ⟨h1,h2,h3⟩:=ih (bud_write hb hne).2
  have hu:=used_add hb.p (nameOf (stepW s).g) (scan.put (s.ws.take (room s)))
  have hw:(stepW s).ws.length=s.ws.length - room s:=by rw [step_ws,List.length_drop]
  have hl:=put_len' s;have hle:=room_le s;have hp:=room_pos hb.r hne
  have hu1:used (addD t (nameOf (stepW s).g) (scan.put (s.ws.take (room s)))).files=used t.files+(scan.put (s.ws.take (room s))).length:=hu.1
  have hu2:(addD t (nameOf (stepW s).g) (scan.put (s.ws.take (room s)))).files.length≤t.files.length+1:=hu.2.1
  rw [hw] at h1 h2
  exact ⟨by omega,by omega,h3⟩
theorem done_more {s C:Wl} {t E:DiskD} {n' : Int} {B:List FrameD} (d:Done s t C E) (hb:Bud s t) (hb2:Bud (wit s n' (s.ws++B)) t) (hC:right (wit C n' B)=true):∃ s2 t2,Done (wit C n' B) E s2 t2:=by
 obtain ⟨s1,t1,a1,a2,a3,a4,a5,a6⟩:=commit_done s.ws.length s t hb (Nat.le_refl _)
 obtain ⟨rfl,rfl⟩:=a1.uniq d
 have hu:=done_used d hb
 have h1:=hb2.u;have h2:=hb2.l
 have hl:(s.ws++B).length=s.ws.length+B.length:=List.length_append
 have hwl:(wit s n' (s.ws++B)).ws.length=s.ws.length+B.length:=hl
 rw [hwl] at h1 h2
 have hbC:Bud (wit s1 n' B) t1:=⟨a3.p,hC,by show ((used t1.files+72 * B.length:Nat):Int)≤t1.room;rw [hu.2.2];omega,by show t1.files.length+B.length≤64;omega⟩
 obtain ⟨s2,t2,b1,_⟩:=commit_done B.length _ _ hbC (Nat.le_refl _)
 exact ⟨s2,t2,b1⟩
structure Bd (i:Nat) (s:Wl) (t:DiskD):Prop where
 p:Plain t
 f:fitsL s t=true
 m:t.room=65536
 u:used t.files+72 * s.ws.length≤72 * i
 l:t.files.length+s.ws.length≤i
theorem Bd.bud {i:Nat} {s:Wl} {t:DiskD} (h:Bd i s t) (hi:i≤32):Bud s t:=⟨h.p,right_of_fits h.f,by have:=h.u;have:=h.m;omega,by have:=h.l;omega⟩
structure PartsI (D0:DiskD) (i:Nat) (one two:Wl) (x:DiskD):Prop where
 h1:Bd i one D0
 h2:Bd i two x
 n:one.n=two.n
 e:one.e=two.e
 ni:one.n=(i:Int)+1
 i:i≤32
 d:∃ C E,Done one D0 C E∧Done two x C E
section
variable {D0 x:DiskD} {i:Nat} {one two:Wl} {k b0 b1 b2 b3 b4 b5:Int}
theorem bd_put {s:Wl} {t:DiskD} (h:Bd i s t) (hk:¬ (k < 1∨6 < k)) (hn:s.n=(i:Int)+1) (hi:i < 32):putW s k b0 b1 b2 b3 b4 b5=(wit s (s.n+1) (s.ws++[newF s k b0 b1 b2 b3 b4 b5]),0)∧Bd (i+1) (wit s (s.n+1) (s.ws++[newF s k b0 b1 b2 b3 b4 b5])) t:=by
 have hl:=h.l;have hu:=h.u
 have hq:¬ (k < 1∨6 < k)∧¬ 1000000000 < s.n∧¬ 32≤s.ws.length:=⟨hk,by omega,by omega⟩
 refine ⟨put_yes (right_of_fits h.f) hq,h.p,put_fits h.f hq,h.m,?_,?_⟩
 ·simp only [List.length_append,List.length_singleton];omega
 ·simp only [List.length_append,List.length_singleton];omega
theorem PartsI.put (h:PartsI D0 i one two x) (hk:¬ (k < 1∨6 < k)) (hi:i < 32) :
  (putW one k b0 b1 b2 b3 b4 b5).2=0∧(putW two k b0 b1 b2 b3 b4 b5).2=0∧PartsI D0 (i+1) (putW one k b0 b1 b2 b3 b4 b5).1 (putW two k b0 b1 b2 b3 b4 b5).1 x:=by
 obtain ⟨e1,g1⟩:=bd_put (b0:=b0) (b1:=b1) (b2:=b2) (b3:=b3) (b4:=b4) (b5:=b5) h.h1 hk h.ni hi
 obtain ⟨e2,g2⟩:=bd_put (b0:=b0) (b1:=b1) (b2:=b2) (b3:=b3) (b4:=b4) (b5:=b5) h.h2 hk (h.n▸h.ni) hi
 rw [e1,e2]
 refine ⟨rfl,rfl,g1,g2,by show one.n+1=two.n+1;rw [h.n],h.e,by show one.n+1=_;have:=h.ni;push_cast;omega,hi,?_⟩
 obtain ⟨C,E,d1,d2⟩:=h.d
 have hf:newF one k b0 b1 b2 b3 b4 b5=newF two k b0 b1 b2 b3 b4 b5:=by unfold newF;rw [h.e,h.n]
 obtain ⟨s2,t2,hd,_⟩:=commit_done 33 _ _ (g1.bud hi) (by have:=right_facts (right_of_fits g1.f);omega)
 obtain ⟨s1,t1,a1',a2',a3',a4',a5',a6'⟩:=commit_done 33 one D0 (h.h1.bud h.i) (by have:=right_facts (right_of_fits h.h1.f);omega)
 obtain ⟨rfl,rfl⟩:=a1'.uniq d1
 have hCr:right (wit s1 (one.n+1) [newF one k b0 b1 b2 b3 b4 b5])=true:=by
  have hn:one.n≤1000000000:=by have:=h.ni;omega
  have:=put_right (b0:=b0) (b1:=b1) (b2:=b2) (b3:=b3) (b4:=b4) (b5:=b5) a3'.r ⟨hk,by rw [a5'];omega,by rw [a4'];simp⟩
  rw [a4',a5'] at this
  have e:newF s1 k b0 b1 b2 b3 b4 b5=newF one k b0 b1 b2 b3 b4 b5:=by unfold newF;rw [a5',a6']
  rw [e] at this
  exact this
 have hC:∃ s2 t2,Done (wit s1 (one.n+1) [newF one k b0 b1 b2 b3 b4 b5]) t1 s2 t2:=done_more d1 (h.h1.bud h.i) (g1.bud hi) hCr
 obtain ⟨s3,t3,h3⟩:=hC
 have a1:=done_parts d1 (h.h1.bud h.i) h3
 have h3' : Done (wit s1 (two.n+1) [newF two k b0 b1 b2 b3 b4 b5]) t1 s3 t3:=by rw [← hf,← h.n];exact h3
 have a2:=done_parts d2 (h.h2.bud h.i) h3'
 exact ⟨s3,t3,a1,a2⟩
end
end Go.Proofs.YtalhdalinpdanaaGreatDoor.wal
end
section
namespace Go.Proofs.YtalhdalinpdanaaGreatDoor.wal
open Go.RowKit Go.Proofs.YtalhdalinpdanaaGreatDoor Go.Proofs.YtalhdalinpdanaaGreatDoor.frame Go.Proofs.YtalhdalinpdanaaGreatDoor.disk
set_option maxRecDepth 20000
structure RdS where
 (e n u g c ep:Int) (all:List FrameD)
def rdz:RdS:=⟨0,0,0,0,0,1,[]⟩
def wlOf (r:RdS):Wl:=⟨r.e,r.n,r.u,r.g,r.c,[]⟩
def scanV (t:DiskD) (a ep:Int):List FrameD:=scan.all ((heldV t a).take 576) a ep
def stepR (t:DiskD) (r:RdS) (a:Int):RdS:=⟨((scanV t a r.ep).getD ((scanV t a r.ep).length - 1) frz).e+1,((scanV t a r.ep).getD ((scanV t a r.ep).length - 1) frz).l+1,((scanV t a r.ep).getD ((scanV t a r.ep).length - 1) frz).l,a,((scanV t a r.ep).length:Int),((scanV t a r.ep).getD ((scanV t a r.ep).length - 1) frz).e,r.all++scanV t a r.ep⟩
def readG (t:DiskD):List Int→RdS→RdS
 | [],r=>r
 |a :: l,r=>if r.g≠0∧a≠r.n then r else if (scanV t a r.ep).length=0 then r else if 72 * (scanV t a r.ep).length < (heldV t a).length then stepR t r a else readG t l (stepR t r a)
def readL (t:DiskD):RdS:=readG t (segs t) rdz
theorem stepR_len (t:DiskD) (r:RdS) (a:Int):r.all.length+(scanV t a r.ep).length=(stepR t r a).all.length:=(List.length_append ..).symm
theorem scanV_len (t:DiskD) (a ep:Int):(scanV t a ep).length≤8:=by
 have h:=scan.all_len ((heldV t a).take 576) a ep
 have h2:((heldV t a).take 576).length≤576:=by rw [List.length_take];exact Nat.min_le_left _ _
 unfold scanV;omega
theorem last_lt {l:List FrameD} (h:¬ (l.length:Int)=0):l.length - 1 < l.length:=by omega
theorem last_ix {t:DiskD} {a ep:Int} (h:¬ ((scanV t a ep).length:Int)=0):(.int .i64 (IntKind.i64.wrap (((scanV t a ep).length:Int) - 1)):Value) = .int .i64 (((scanV t a ep).length - 1:Nat):Int):=by
 have:=scanV_len t a ep
 exact wrap_is (by omega) (by omega) (by omega)
theorem dec_right {l:List Nat} (h:(dec l).1=0):frame.right (dec l).2=true:=by
 unfold dec at h ⊢
 split at h
 ·cases h
 ·rename_i h1
  rw [if_neg h1]
  split at h
  ·cases h
  ·rename_i h2
   rw [if_neg h2]
   split at h
   ·rename_i h3;rw [if_pos h3];exact h3
   ·cases h
theorem scan_all_right:∀ (k:Nat) (b:List Nat) (n e:Int),∀ f ∈ scan.scan k b n e,frame.right f=true
 | 0,_,_,_,f,hf=>by simp [scan.scan] at hf
 |k+1,b,n,e,f,hf=>by
  rw [scan.scan] at hf
  split at hf
  ·rename_i h
   rcases List.mem_cons.1 hf with rfl | hf
   ·exact dec_right h.2.1
   ·exact scan_all_right k _ _ _ f hf
  ·cases hf
theorem scan_rng (t:DiskD) (a ep:Int) (h:¬ ((scanV t a ep).length:Int)=0):1≤((scanV t a ep).getD ((scanV t a ep).length - 1) frz).e∧((scanV t a ep).getD ((scanV t a ep).length - 1) frz).e≤1000000∧1≤((scanV t a ep).getD ((scanV t a ep).length - 1) frz).l∧((scanV t a ep).getD ((scanV t a ep).length - 1) frz).l≤1000000000:=by
 have hl:(scanV t a ep).length - 1 < (scanV t a ep).length:=by omega
 have hm:(scanV t a ep).getD ((scanV t a ep).length - 1) frz ∈ scanV t a ep:=by
  rw [List.getD_eq_getElem?_getD,List.getElem?_eq_getElem hl];exact List.getElem_mem hl
 have:=scan_all_right _ _ _ _ _ hm
 simp only [frame.right,decide_eq_true_eq] at this
 omega
section
variable {t:DiskD} {r:RdS} {i:Nat}
abbrev ReadI (t:DiskD) (i:Nat) (r:RdS):Prop:=i≤(segs t).length∧readG t (segs t) rdz=readG t ((segs t).drop i) r∧r.all.length≤8 * i
theorem read_unfold (hi:i < (segs t).length):readG t ((segs t).drop i) r=if r.g≠0∧(segs t).getD i 0≠r.n then r else if (scanV t ((segs t).getD i 0) r.ep).length=0 then r else if 72 * (scanV t ((segs t).getD i 0) r.ep).length < (heldV t ((segs t).getD i 0)).length then stepR t r ((segs t).getD i 0) else readG t ((segs t).drop (i+1)) (stepR t r ((segs t).getD i 0)):=by
 rw [List.drop_eq_getElem_cons hi,readG,List.getD_eq_getElem?_getD,List.getElem?_eq_getElem hi,Option.getD_some]
theorem read_end (h:ReadI t i r) (hi:¬ i < (segs t).length):readL t=r:=by
 have:=h.2.1
 rw [List.drop_eq_nil_of_le (by omega)] at this
 exact this
theorem read_gap (h:ReadI t i r) (hi:i < (segs t).length) (hg:r.g≠0∧(segs t).getD i 0≠r.n):readL t=r:=by
 have:=h.2.1
 rw [read_unfold hi,if_pos hg] at this
 exact this
theorem read_none (h:ReadI t i r) (hi:i < (segs t).length) (hz:((scanV t ((segs t).getD i 0) r.ep).length:Int)=0):readL t=r:=by
 have:=h.2.1
 rw [read_unfold hi] at this
 by_cases hg:r.g≠0∧(segs t).getD i 0≠r.n
 ·rw [if_pos hg] at this;exact this
 ·rw [if_neg hg,if_pos (by omega)] at this;exact this
theorem read_last (h:ReadI t i r) (hi:i < (segs t).length) (hg:¬ (r.g≠0∧(segs t).getD i 0≠r.n)) (hz:¬ ((scanV t ((segs t).getD i 0) r.ep).length:Int)=0) (hl:((scanV t ((segs t).getD i 0) r.ep).length:Int) * 72 < ((heldV t ((segs t).getD i 0)).length:Int)):readL t=stepR t r ((segs t).getD i 0):=by
 have:=h.2.1
 rw [read_unfold hi,if_neg hg,if_neg (by omega),if_pos (by omega)] at this
 exact this
theorem read_step (h:ReadI t i r) (hi:i < (segs t).length) (hg:¬ (r.g≠0∧(segs t).getD i 0≠r.n)) (hz:¬ ((scanV t ((segs t).getD i 0) r.ep).length:Int)=0) (hl:¬ ((scanV t ((segs t).getD i 0) r.ep).length:Int) * 72 < ((heldV t ((segs t).getD i 0)).length:Int)):ReadI t (i+1) (stepR t r ((segs t).getD i 0)):=by
 have h1:=h.2.1
 rw [read_unfold hi,if_neg hg,if_neg (by omega),if_neg (by omega)] at h1
 have h2:=scanV_len t ((segs t).getD i 0) r.ep
 have h3:=h.2.2
 exact ⟨hi,h1,by rw [← stepR_len];omega⟩
variable {w0:World} {D:List Fact} {u:Dv}
theorem q_read {A:Option Addr} {c:Nat} (hr:readL t=r) (hD:Turns w0 D [ownF rdFrame 9 72 A r.all.length c r.all]):∃ x:Option Addr × Nat,(.tuple #[.agg #[.int .i64 r.e,.int .i64 r.n,.int .i64 r.u,.int .i64 r.g,.int .i64 r.c,.slice none 0 0],.slice A r.all.length c]:Value) = .tuple #[.agg (jc ⟨none,0⟩ (wlOf (readL t))),.slice x.1 (readL t).all.length x.2]∧Turns w0 D [ownF rdFrame 9 72 x.1 (readL t).all.length x.2 (readL t).all]:=by
 subst hr;exact ⟨(A,c),rfl,hD⟩
theorem g_heldb {g : Int} (hd : InD w0 (Lt w0.heap.size) u t) (hs : shortB t.files = true) (hg : inI g) (ht : Lib.TabIs Tryz.prog w0 "internal/strconv.uint64pow10" .u64 Lib.pow10Tab) : GivesM Tryz.prog w0 D 66 #[.agg (dc u t), .int .i64 g] { x : Option Addr × Nat // BysIn w0 (Lt w0.heap.size) x.1 (heldV t g) ∧ (heldV t g).length ≤ x.2 ∧ x.2 ≤ maxLen } (fun x => .slice x.1.1 (heldV t g).length x.1.2) (fun _ => []) := fun w hw _ =>
 (v_held u t g (Lt w0.heap.size) w (hd.below hw) (fun _ h=>Nat.lt_of_lt_of_le h hw.size) hs hg (var_later ht hw)).mono (by
 rintro e w' ⟨x,rfl,hb,h1,h2,h3⟩
 exact ⟨⟨x,IntsIn.keep h1 (fun b o hk=>((hw.trans (hb.mono hw.size)).cell (p:=⟨b,o,none⟩) hk).symm) (fun _ h=>h),h2,h3⟩,rfl,hb,news_nil⟩)
theorem bys_576 {A:Option Addr} {bs:List Nat} {S:Nat→Prop} (h:BysIn w0 S A bs):BysIn w0 S A (bs.take 576):=by
 obtain ⟨h1,h2⟩:=h
 have e:toI (bs.take 576)=(toI bs).take 576:=by unfold toI;rw [List.map_take]
 refine ⟨fun x hx=>h1 x (by rw [e] at hx;exact List.mem_of_mem_take hx),fun hn=>?_⟩
 rw [e] at hn ⊢
 obtain ⟨b,off,e1,e2,e3⟩:=h2 (by rw [List.length_take] at hn;omega)
 refine ⟨b,off,e1,e2,fun j hj=>?_⟩
 rw [List.length_take] at hj
 rw [e3 j (by omega),List.getD_eq_getElem?_getD,List.getD_eq_getElem?_getD,List.getElem?_take,if_pos (by omega)]
theorem info_b8:(Tryz.prog.info? 5).map (fun i=>(i.zero,i.size,i.bytes))=some (some (.int .u8 0),1,1):=by kernel_rfl
theorem len_576 (bs:List Nat):(bs.take 576).length≤100000:=Nat.le_trans (by rw [List.length_take];exact Nat.min_le_left _ _) (by decide)
theorem take_576 {bs:List Nat} {c:Nat} (h:bs.length≤c):(bs.take 576).length≤c:=by rw [List.length_take];omega
theorem cut_576 {A:Option Addr} {c:Nat} {bs:List Nat} (h:bs.length≤c):Yields0 Tryz.prog w0 D (Instr.sliceAt 62 (.slice A bs.length c) none (some (.int .i64 (if 576 < (bs.length:Int) then 576 else (bs.length:Int)))) none) (.slice A (bs.take 576).length c):=by
 by_cases h5:576 < (bs.length:Int)
 ·rw [if_pos h5]
  exact cut_to Tryz.underlying62 info_b8 bs 576 (by omega) h
 ·rw [if_neg h5,List.take_of_length_le (by omega)]
  have:=cut_to (w0:=w0) (D:=D) Tryz.underlying62 info_b8 (A:=A) bs bs.length (Nat.le_refl _) h
  rwa [List.take_length] at this
theorem g_scan {A:Option Addr} {c:Nat} {ep:Int} {g:Int} (hx:BysIn w0 (Lt w0.heap.size) A ((heldV t g).take 576)) (hc:((heldV t g).take 576).length≤c) (hm:c≤maxLen):GivesM Tryz.prog w0 D 92 #[.slice A ((heldV t g).take 576).length c,.int .i64 g,.int .i64 ep] (Option Addr × Nat) (fun x=>.tuple #[.slice x.1 (scanV t g ep).length x.2,.int .i64 (((scanV t g ep).length:Int) * 72)]) (fun x=>[ownF rdFrame 9 72 x.1 (scanV t g ep).length x.2 (scanV t g ep)]):=fun w hw _ =>
 (scan.scan_of w (B:=w.heap.size) (BysIn.bys (hx.keep (below_alike hw) (fun _ h=>h)) (fun b hb=>Nat.lt_of_lt_of_le hb hw.size)) (Nat.le_refl _) rfl hc (by unfold maxLen at hm;omega) (len_576 _) rfl rfl).mono (by
 rintro e w' ⟨A',c',rfl,ho,hb⟩
 exact ⟨(A',c'),rfl,hb,news_one (ho.lower (Nat.zero_le _)) (ownF_stable keeps_frame) (fun k hk=>⟨.inr (ho.block k hk).1,(ho.block k hk).2⟩)⟩)
end
theorem v_read (u : Dv) (t : DiskD)  (w : World) (hd : InD w (Lt w.heap.size) u t) (hs : shortB t.files = true) (ht : Lib.TabIs Tryz.prog w "internal/strconv.uint64pow10" .u64 Lib.pow10Tab) (he : ErrVar w) : Calls Tryz.prog 51 #[.agg (dc u t)] w fun e w' => ∃ x : Option Addr × Nat, e = .returned (.tuple #[.agg (jc ⟨none, 0⟩ (wlOf (readL t))), .slice x.1 (readL t).all.length x.2]) ∧ Below w.heap.size w w' ∧ News (fun _ => False) w.heap.size ([ownF rdFrame 9 72 x.1 (readL t).all.length x.2 (readL t).all]) w' :=
 have hsl:=segs_len hs
 calls_mem (fn:=Tryz.f51) (r:=fun (x:Option Addr × Nat)=>.tuple #[.agg (jc ⟨none,0⟩ (wlOf (readL t))),.slice x.1 (readL t).all.length x.2]) (fs:=fun (x:Option Addr × Nat)=>[ownF rdFrame 9 72 x.1 (readL t).all.length x.2 (readL t).all]) (t:=let k0:=Option Addr × Nat;let k1:=(segs t).length; .cm k0 (fun x=>.slice x.1 k1 x.2) (fun x=>[ownF (rdInt .i64) 1 2 x.1 k1 x.2 (segs t)]) (fun x1=>.l (Nat × RdS × k0) (fun x=>[(1,undef,some (0,0)),(2,undef,some (1,0)),(4,undef,some (2,0)),(5,.slice x.2.2.1 x.2.1.all.length x.2.2.2,none),(6,.int .i64 x.2.1.ep,none),(14,.slice x1.1 k1 x1.2,none),(15,.int .i64 ((segs t).length:Int),none),(16,.int .i64 (x.1:Int),none)]) (fun x=>[(2,#[.int .i64 x.2.1.e,.int .i64 x.2.1.n,.int .i64 x.2.1.u,.int .i64 x.2.1.g,.int .i64 x.2.1.c,.slice none 0 0])]) [0,1,2] [ownF rdFrame 9 72 none 0 0 ([])] (fun x=>[ownF rdFrame 9 72 x.2.2.1 x.2.1.all.length x.2.2.2 x.2.1.all,ownF (rdInt .i64) 1 2 x1.1 k1 x1.2 (segs t)]) (fun x=>x.1≤(segs t).length∧readG t (segs t) rdz=readG t ((segs t).drop x.1) x.2.1∧x.2.1.all.length≤8 * x.1) (fun x=>(segs t).length - x.1) ((0,rdz,(none,0)):Nat × RdS × k0) (fun y2=>let k3:=(segs t).getD y2.1 0;let k2:=scanV t k3 y2.2.1.ep;let k4:=(k2.length - 1:Nat);let k7:=stepR t y2.2.1 k3;let k5:=k7.all.length;let k6:=k2.getD k4 frz;let k8:=((heldV t k3).take 576).length;let k9:Value:=.int .i64 ((y2.1+1:Nat):Int); .s (.q (blkA x1.1) (offA x1.1+y2.1 * 1) #[.int .i64 k3] (.s (.k (.s .z (.cm ({ x:Option Addr × Nat // BysIn w (Lt w.heap.size) x.1 (heldV t k3)∧(heldV t k3).length≤x.2∧x.2≤maxLen }) (fun x=>.slice x.1.1 ((heldV t k3).length) x.1.2) (fun x=>[]) (fun x8=>.x (.slice x8.1.1 k8 x8.1.2) (.cm k0 (fun x=>.tuple #[.slice x.1 (k2.length) x.2,.int .i64 ((k2.length:Int) * 72)]) (fun x=>[ownF rdFrame 9 72 x.1 (k2.length) x.2 k2]) (fun x9=>.s .z (.w k0 (some 1) (fun x=>.slice x.1 k5 x.2) (fun x=>[ownF rdFrame 9 72 x.1 k5 x.2 (k7.all)]) (fun x11=>.e (.int .i64 (k4:Int)) (.q (blkA x9.1) (offA x9.1+k4 * 9) (fc k6) (.e (.int .i64 (k6.e+1)) (.e (.int .i64 (k6.l+1)) (.s .z (.e k9 .z))))))))))))) (.k (.cm ({ x:Option Addr × Nat // BysIn w (Lt w.heap.size) x.1 (heldV t k3)∧(heldV t k3).length≤x.2∧x.2≤maxLen }) (fun x=>.slice x.1.1 ((heldV t k3).length) x.1.2) (fun x=>[]) (fun x13=>.x (.slice x13.1.1 k8 x13.1.2) (.cm k0 (fun x=>.tuple #[.slice x.1 (k2.length) x.2,.int .i64 ((k2.length:Int) * 72)]) (fun x=>[ownF rdFrame 9 72 x.1 (k2.length) x.2 k2]) (fun x14=>.s .z (.w k0 (some 1) (fun x=>.slice x.1 k5 x.2) (fun x=>[ownF rdFrame 9 72 x.1 k5 x.2 (k7.all)]) (fun x16=>.e (.int .i64 (k4:Int)) (.q (blkA x14.1) (offA x14.1+k4 * 9) (fc k6) (.e (.int .i64 (k6.e+1)) (.e (.int .i64 (k6.l+1)) (.s .z (.e k9 .z)))))))))))))) .z))) (X :=
 let k4:=Option Addr × Nat;let k0:=((0,rdz,(none,0)):Nat × RdS × k4);let k1:=(segs t).length;let k2:Array Value:=#[.int .i64 0,.int .i64 0,.int .i64 0,.int .i64 0,.int .i64 0,.slice none 0 0];let k3:=((segs t).length:Int);let k5:=wlOf (readL t);let k6:=Lt w.heap.size; ∀ g0:Nat,let k7:Option Addr:=some ⟨g0,0,none⟩;  ∀ g1:Nat,let k8:Option Addr:=some ⟨g1,0,none⟩;  ∀ g2:Nat,let k9:Option Addr:=some ⟨g2,0,none⟩;GivesM Tryz.prog w [] 21 #[.agg (dc u t)] k4 (fun x=>.slice x.1 k1 x.2) (fun x=>[ownF (rdInt .i64) 1 2 x.1 k1 x.2 (segs t)])∧∀ x1:Option Addr × Nat,Brings w [ownF (rdInt .i64) 1 2 x1.1 k1 x1.2 (segs t)] [ownF rdFrame 9 72 none 0 0 ([])]∧(k0.1≤(segs t).length∧readG t (segs t) rdz=readG t ((segs t).drop k0.1) k0.2.1∧k0.2.1.all.length≤8 * k0.1)∧(([.pointer k7,.pointer k8,.pointer k9,.slice none 0 0,.int .i64 1,.slice x1.1 k1 x1.2,.int .i64 k3,.int .i64 0]:List Value)=[.pointer k7,.pointer k8,.pointer k9,.slice (k0.2.2.1) (k0.2.1.all.length) (k0.2.2.2),.int .i64 (k0.2.1.ep),.slice x1.1 k1 x1.2,.int .i64 k3,.int .i64 (k0.1:Int)]∧([some ⟨g2,0,k2,.own 24⟩,some ⟨g1,0,k2,.own 24⟩,some ⟨g0,0,(dc u t),.own 27⟩]:List (Option Blk))=[some ⟨g2,0,#[.int .i64 (k0.2.1.e),.int .i64 (k0.2.1.n),.int .i64 (k0.2.1.u),.int .i64 (k0.2.1.g),.int .i64 (k0.2.1.c),.slice none 0 0],.own 24⟩,some ⟨g1,0,k2,.own 24⟩,some ⟨g0,0,(dc u t),.own 27⟩]∧Turns w [ownF rdFrame 9 72 none 0 0 ([]),ownF (rdInt .i64) 1 2 x1.1 k1 x1.2 (segs t)] [ownF rdFrame 9 72 (k0.2.2.1) (k0.2.1.all.length) (k0.2.2.2) (k0.2.1.all),ownF (rdInt .i64) 1 2 x1.1 k1 x1.2 (segs t)])∧true=true∧∀ (y2:Nat × RdS × k4),let k11:=(segs t).getD y2.1 0;let k10:=scanV t k11 y2.2.1.ep;let k12:List Fact:=[ownF rdFrame 9 72 y2.2.2.1 y2.2.1.all.length y2.2.2.2 y2.2.1.all,ownF (rdInt .i64) 1 2 x1.1 k1 x1.2 (segs t)];let k19:=(k10.length - 1:Nat);let k13:=k10.getD k19 frz;let k14:=(.tuple #[.agg #[.int .i64 y2.2.1.e,.int .i64 y2.2.1.n,.int .i64 y2.2.1.u,.int .i64 y2.2.1.g,.int .i64 y2.2.1.c,.slice none 0 0],.slice y2.2.2.1 y2.2.1.all.length y2.2.2.2]:Value);let k15:=(stepR t y2.2.1 k11).all.length;let k20:=(k10.length:Int);let k16:Array Value:=#[.int .i64 (k13.e+1),.int .i64 (k13.l+1),.int .i64 (k13.l),.int .i64 k11,.int .i64 k20,.slice none 0 0];let k17:=(stepR t y2.2.1 k11).all;let k22:=((heldV t k11).length:Int);let k18:=decide ((k20 * 72) < k22);let k21:=([some ⟨g2,0,k16,.own 24⟩,some ⟨g1,0,k2,.own 24⟩,some ⟨g0,0,(dc u t),.own 27⟩]:List (Option Blk));let k23:=((heldV t k11).take 576).length;let k24:=(ownF rdFrame 9 72 y2.2.2.1 y2.2.1.all.length y2.2.2.2 y2.2.1.all).S;let k25:=((y2.1+1:Nat):Int);let k26:=(heldV t k11).length;let k27:=(.int .i64 (IntKind.i64.wrap ((y2.1:Int)+1)):Value);let k28:=(.int .i64 (IntKind.i64.wrap (k13.e+1)):Value);let k29:=(.int .i64 (IntKind.i64.wrap (k13.l+1)):Value);let k30:=decide (k20=0);let k31:=(.int .i64 (IntKind.i64.wrap (k20 - 1)):Value);let k32:Value:=.int .i64 (if 576 < k22 then 576 else k22);let k33:=decide ((y2.1:Int) < k3);let k34 := !decide (k11=y2.2.1.n);(y2.1≤(segs t).length∧readG t (segs t) rdz=readG t ((segs t).drop y2.1) y2.2.1∧y2.2.1.all.length≤8 * y2.1)→∀ τ4:Nat→Value,(k33=true→Yields0 Tryz.prog w k12 (Instr.indexAt 47 (.slice x1.1 k1 x1.2) (.int .i64 (y2.1:Int))) (.pointer (some ⟨blkA x1.1,offA x1.1+y2.1 * 1,none⟩))∧Reads0 w k12 (blkA x1.1) (offA x1.1+y2.1 * 1) #[.int .i64 k11]∧((!decide (y2.2.1.g=0))=true→(k34=true→∃ x:Option Addr × Nat,k14 = .tuple #[.agg (jc ⟨none,0⟩ k5),.slice x.1 (readL t).all.length x.2]∧Turns w k12 ([ownF rdFrame 9 72 x.1 (readL t).all.length x.2 (readL t).all]))∧(k34=false→GivesM Tryz.prog w k12 66 #[.agg (dc u t),.int .i64 k11] ({ x:Option Addr × Nat // BysIn w k6 x.1 (heldV t k11)∧(heldV t k11).length≤x.2∧x.2≤maxLen }) (fun x=>.slice x.1.1 k26 x.1.2) (fun x=>[])∧∀ x8:{ x:Option Addr × Nat // BysIn w k6 x.1 (heldV t k11)∧(heldV t k11).length≤x.2∧x.2≤maxLen },Yields0 Tryz.prog w k12 (Instr.sliceAt 62 (.slice x8.1.1 k26 x8.1.2) none (some k32) none) (.slice x8.1.1 k23 x8.1.2)∧GivesM Tryz.prog w k12 92 #[.slice x8.1.1 k23 x8.1.2,.int .i64 k11,.int .i64 y2.2.1.ep] k4 (fun x=>.tuple #[.slice x.1 (k10.length) x.2,.int .i64 (k20 * 72)]) (fun x=>[ownF rdFrame 9 72 x.1 (k10.length) x.2 k10])∧∀ x9:Option Addr × Nat,let k35:List Fact:=[ownF rdFrame 9 72 x9.1 (k10.length) x9.2 k10,ownF rdFrame 9 72 y2.2.2.1 y2.2.1.all.length y2.2.2.2 y2.2.1.all,ownF (rdInt .i64) 1 2 x1.1 k1 x1.2 (segs t)];(k30=true→∃ x:Option Addr × Nat,k14 = .tuple #[.agg (jc ⟨none,0⟩ k5),.slice x.1 (readL t).all.length x.2]∧Turns w k35 ([ownF rdFrame 9 72 x.1 (readL t).all.length x.2 (readL t).all]))∧(k30=false→StepM Tryz.prog w k35 (Builtin.append_ #[22,22] 22 #[.slice y2.2.2.1 y2.2.1.all.length y2.2.2.2,.slice x9.1 (k10.length) x9.2]) k24 k4 (fun x=>.slice x.1 k15 x.2) (fun x=>[ownF rdFrame 9 72 x.1 k15 x.2 k17])∧∀ x11:Option Addr × Nat,let k36:List Fact:=[ownF rdFrame 9 72 x11.1 k15 x11.2 k17,ownF rdFrame 9 72 x9.1 (k10.length) x9.2 k10,ownF (rdInt .i64) 1 2 x1.1 k1 x1.2 (segs t)];k31 = .int .i64 (k19:Int)∧Yields0 Tryz.prog w k36 (Instr.indexAt 22 (.slice x9.1 (k10.length) x9.2) (.int .i64 (k19:Int))) (.pointer (some ⟨blkA x9.1,offA x9.1+k19 * 9,none⟩))∧Reads0 w k36 (blkA x9.1) (offA x9.1+k19 * 9) (fc k13)∧∀ g5:Nat,k28 = .int .i64 (k13.e+1)∧k29 = .int .i64 (k13.l+1)∧(k18=true→∃ x:Option Addr × Nat,(.tuple #[.agg k16,.slice x11.1 k15 x11.2]:Value) = .tuple #[.agg (jc ⟨none,0⟩ k5),.slice x.1 (readL t).all.length x.2]∧Turns w k36 ([ownF rdFrame 9 72 x.1 (readL t).all.length x.2 (readL t).all]))∧(k18=false→k27 = .int .i64 k25∧∃ x' : Nat × RdS × k4,(x'.1≤(segs t).length∧readG t (segs t) rdz=readG t ((segs t).drop x'.1) x'.2.1∧x'.2.1.all.length≤8 * x'.1)∧((segs t).length - x'.1 < (segs t).length - y2.1)∧(([.pointer k7,.pointer k8,.pointer k9,.slice x11.1 k15 x11.2,.int .i64 (k13.e),.slice x1.1 k1 x1.2,.int .i64 k3,.int .i64 k25]:List Value)=[.pointer k7,.pointer k8,.pointer k9,.slice x'.2.2.1 x'.2.1.all.length x'.2.2.2,.int .i64 x'.2.1.ep,.slice x1.1 k1 x1.2,.int .i64 k3,.int .i64 (x'.1:Int)]∧k21=[some ⟨g2,0,#[.int .i64 x'.2.1.e,.int .i64 x'.2.1.n,.int .i64 x'.2.1.u,.int .i64 x'.2.1.g,.int .i64 x'.2.1.c,.slice none 0 0],.own 24⟩,some ⟨g1,0,k2,.own 24⟩,some ⟨g0,0,(dc u t),.own 27⟩]∧Turns w k36 [ownF rdFrame 9 72 x'.2.2.1 x'.2.1.all.length x'.2.2.2 x'.2.1.all,ownF (rdInt .i64) 1 2 x1.1 k1 x1.2 (segs t)])∧true=true))))∧((!decide (y2.2.1.g=0))=false→GivesM Tryz.prog w k12 66 #[.agg (dc u t),.int .i64 k11] ({ x:Option Addr × Nat // BysIn w k6 x.1 (heldV t k11)∧(heldV t k11).length≤x.2∧x.2≤maxLen }) (fun x=>.slice x.1.1 k26 x.1.2) (fun x=>[])∧∀ x13:{ x:Option Addr × Nat // BysIn w k6 x.1 (heldV t k11)∧(heldV t k11).length≤x.2∧x.2≤maxLen },Yields0 Tryz.prog w k12 (Instr.sliceAt 62 (.slice x13.1.1 k26 x13.1.2) none (some k32) none) (.slice x13.1.1 k23 x13.1.2)∧GivesM Tryz.prog w k12 92 #[.slice x13.1.1 k23 x13.1.2,.int .i64 k11,.int .i64 y2.2.1.ep] k4 (fun x=>.tuple #[.slice x.1 (k10.length) x.2,.int .i64 (k20 * 72)]) (fun x=>[ownF rdFrame 9 72 x.1 (k10.length) x.2 k10])∧∀ x14:Option Addr × Nat,let k37:List Fact:=[ownF rdFrame 9 72 x14.1 (k10.length) x14.2 k10,ownF rdFrame 9 72 y2.2.2.1 y2.2.1.all.length y2.2.2.2 y2.2.1.all,ownF (rdInt .i64) 1 2 x1.1 k1 x1.2 (segs t)];(k30=true→∃ x:Option Addr × Nat,k14 = .tuple #[.agg (jc ⟨none,0⟩ k5),.slice x.1 (readL t).all.length x.2]∧Turns w k37 ([ownF rdFrame 9 72 x.1 (readL t).all.length x.2 (readL t).all]))∧(k30=false→StepM Tryz.prog w k37 (Builtin.append_ #[22,22] 22 #[.slice y2.2.2.1 y2.2.1.all.length y2.2.2.2,.slice x14.1 (k10.length) x14.2]) k24 k4 (fun x=>.slice x.1 k15 x.2) (fun x=>[ownF rdFrame 9 72 x.1 k15 x.2 k17])∧∀ x16:Option Addr × Nat,let k38:List Fact:=[ownF rdFrame 9 72 x16.1 k15 x16.2 k17,ownF rdFrame 9 72 x14.1 (k10.length) x14.2 k10,ownF (rdInt .i64) 1 2 x1.1 k1 x1.2 (segs t)];k31 = .int .i64 (k19:Int)∧Yields0 Tryz.prog w k38 (Instr.indexAt 22 (.slice x14.1 (k10.length) x14.2) (.int .i64 (k19:Int))) (.pointer (some ⟨blkA x14.1,offA x14.1+k19 * 9,none⟩))∧Reads0 w k38 (blkA x14.1) (offA x14.1+k19 * 9) (fc k13)∧∀ g5:Nat,k28 = .int .i64 (k13.e+1)∧k29 = .int .i64 (k13.l+1)∧(k18=true→∃ x:Option Addr × Nat,(.tuple #[.agg k16,.slice x16.1 k15 x16.2]:Value) = .tuple #[.agg (jc ⟨none,0⟩ k5),.slice x.1 (readL t).all.length x.2]∧Turns w k38 ([ownF rdFrame 9 72 x.1 (readL t).all.length x.2 (readL t).all]))∧(k18=false→k27 = .int .i64 k25∧∃ x' : Nat × RdS × k4,(x'.1≤(segs t).length∧readG t (segs t) rdz=readG t ((segs t).drop x'.1) x'.2.1∧x'.2.1.all.length≤8 * x'.1)∧((segs t).length - x'.1 < (segs t).length - y2.1)∧(([.pointer k7,.pointer k8,.pointer k9,.slice x16.1 k15 x16.2,.int .i64 (k13.e),.slice x1.1 k1 x1.2,.int .i64 k3,.int .i64 k25]:List Value)=[.pointer k7,.pointer k8,.pointer k9,.slice x'.2.2.1 x'.2.1.all.length x'.2.2.2,.int .i64 x'.2.1.ep,.slice x1.1 k1 x1.2,.int .i64 k3,.int .i64 (x'.1:Int)]∧k21=[some ⟨g2,0,#[.int .i64 x'.2.1.e,.int .i64 x'.2.1.n,.int .i64 x'.2.1.u,.int .i64 x'.2.1.g,.int .i64 x'.2.1.c,.slice none 0 0],.own 24⟩,some ⟨g1,0,k2,.own 24⟩,some ⟨g0,0,(dc u t),.own 27⟩]∧Turns w k38 [ownF rdFrame 9 72 x'.2.2.1 x'.2.1.all.length x'.2.2.2 x'.2.1.all,ownF (rdInt .i64) 1 2 x1.1 k1 x1.2 (segs t)])∧true=true))))∧(k33=false→∃ x:Option Addr × Nat,k14 = .tuple #[.agg (jc ⟨none,0⟩ k5),.slice x.1 (readL t).all.length x.2]∧Turns w k12 ([ownF rdFrame 9 72 x.1 (readL t).all.length x.2 (readL t).all]))) Tryz.func51 (by kernel_rfl)
 (fun g0=>fun g1=>fun g2=>⟨(g_segs hd hs ht he),fun x1=>⟨(own_nil keeps_frame 9 _),⟨Nat.zero_le _,rfl,Nat.zero_le _⟩,⟨rfl,rfl,(turns_sub (List.Sublist.refl _))⟩,rfl,fun y2 I3 τ4=>⟨fun h5=>have h5:(y2.1:Int) < ((segs t).length:Int):=(by simpa using h5)
⟨(own_index Tryz.underlying47 info_i64 (row_at (j:=1) rfl) (by omega)),(own_reads (keeps_int _) (by decide) int_cells (row_at (j:=1) rfl) (at_getD (by omega))),⟨fun h6=>have h6:¬ y2.2.1.g=0:=(by simpa using h6)
⟨fun h7=>have h7:¬ ((segs t).getD y2.1 0)=y2.2.1.n:=(by simpa using h7)
(q_read (r:=y2.2.1) (read_gap I3 (by omega) (by omega)) (turns_idx [0] (by decide) rfl)),
 fun h7=>have h7:((segs t).getD y2.1 0)=y2.2.1.n:=(by simpa using h7)
⟨(g_heldb hd hs (seg_in (segs_rng t) (by omega)) ht),fun x8=>⟨(cut_576 x8.2.2.1),⟨(g_scan (bys_576 x8.2.1) (take_576 x8.2.2.1) x8.2.2.2),fun x9=>⟨fun h10=>have h10:((scanV t ((segs t).getD y2.1 0) y2.2.1.ep).length:Int)=0:=(by simpa using h10)
(q_read (r:=y2.2.1) (read_none I3 (by omega) h10) (turns_idx [1] (by decide) rfl)),
 fun h10=>have h10:¬ ((scanV t ((segs t).getD y2.1 0) y2.2.1.ep).length:Int)=0:=(by simpa using h10)
⟨(step_to2 (stepR_len _ _ _) rfl (append_core keeps_frame leaf_frame (by decide) Tryz.underlying22 info_frame rfl (fun _ h=>h) (row_at (j:=1) rfl) (fun w _ ha=>⟨_,(row_at (j:=0) rfl w ha).reads keeps_frame (by decide)⟩) rfl (by have:=I3.2.2;have:=scanV_len t ((segs t).getD y2.1 0) y2.2.1.ep;unfold maxLen;omega) (by have:=I3.2.2;have:=scanV_len t ((segs t).getD y2.1 0) y2.2.1.ep;omega) (fun h=>h))),fun x11=>⟨(last_ix h10),⟨(own_index Tryz.underlying22 info_frame (row_at (j:=1) rfl) (last_lt h10)),(own_reads keeps_frame (by decide) frame_cells (row_at (j:=1) rfl) (at_getD (by omega))),fun g5=>⟨wrap_is rfl (by have:=scan_rng t ((segs t).getD y2.1 0) y2.2.1.ep h10;omega) (by have:=scan_rng t ((segs t).getD y2.1 0) y2.2.1.ep h10;omega),⟨wrap_is rfl (by have:=scan_rng t ((segs t).getD y2.1 0) y2.2.1.ep h10;omega) (by have:=scan_rng t ((segs t).getD y2.1 0) y2.2.1.ep h10;omega),⟨fun h12=>have h12:(((scanV t ((segs t).getD y2.1 0) y2.2.1.ep).length:Int) * 72) < ((heldV t ((segs t).getD y2.1 0)).length:Int):=(by simpa using h12)
(q_read (r:=(stepR t y2.2.1 ((segs t).getD y2.1 0))) (read_last I3 (by omega) (by omega) h10 (by omega)) (turns_idx [0] (by decide) rfl)),
 fun h12=>have h12:¬ (((scanV t ((segs t).getD y2.1 0) y2.2.1.ep).length:Int) * 72) < ((heldV t ((segs t).getD y2.1 0)).length:Int):=(by simpa using h12)
⟨wrap_is (by omega) (by omega) (by omega),⟨((y2.1+1,(stepR t y2.2.1 ((segs t).getD y2.1 0)),(x11.1,x11.2)):Nat × RdS × (Option Addr × Nat)),(read_step I3 (by omega) (by omega) h10 (by omega)),(by dsimp only;omega),⟨rfl,rfl,(turns_idx [0,2] (by decide) rfl)⟩,rfl⟩⟩⟩⟩⟩⟩⟩⟩⟩⟩⟩⟩⟩,
 fun h6=>have h6:y2.2.1.g=0:=(by simpa using h6)
⟨(g_heldb hd hs (seg_in (segs_rng t) (by omega)) ht),fun x13=>⟨(cut_576 x13.2.2.1),⟨(g_scan (bys_576 x13.2.1) (take_576 x13.2.2.1) x13.2.2.2),fun x14=>⟨fun h15=>have h15:((scanV t ((segs t).getD y2.1 0) y2.2.1.ep).length:Int)=0:=(by simpa using h15)
(q_read (r:=y2.2.1) (read_none I3 (by omega) h15) (turns_idx [1] (by decide) rfl)),
 fun h15=>have h15:¬ ((scanV t ((segs t).getD y2.1 0) y2.2.1.ep).length:Int)=0:=(by simpa using h15)
⟨(step_to2 (stepR_len _ _ _) rfl (append_core keeps_frame leaf_frame (by decide) Tryz.underlying22 info_frame rfl (fun _ h=>h) (row_at (j:=1) rfl) (fun w _ ha=>⟨_,(row_at (j:=0) rfl w ha).reads keeps_frame (by decide)⟩) rfl (by have:=I3.2.2;have:=scanV_len t ((segs t).getD y2.1 0) y2.2.1.ep;unfold maxLen;omega) (by have:=I3.2.2;have:=scanV_len t ((segs t).getD y2.1 0) y2.2.1.ep;omega) (fun h=>h))),fun x16=>⟨(last_ix h15),⟨(own_index Tryz.underlying22 info_frame (row_at (j:=1) rfl) (last_lt h15)),(own_reads keeps_frame (by decide) frame_cells (row_at (j:=1) rfl) (at_getD (by omega))),fun g5=>⟨wrap_is rfl (by have:=scan_rng t ((segs t).getD y2.1 0) y2.2.1.ep h15;omega) (by have:=scan_rng t ((segs t).getD y2.1 0) y2.2.1.ep h15;omega),⟨wrap_is rfl (by have:=scan_rng t ((segs t).getD y2.1 0) y2.2.1.ep h15;omega) (by have:=scan_rng t ((segs t).getD y2.1 0) y2.2.1.ep h15;omega),⟨fun h17=>have h17:(((scanV t ((segs t).getD y2.1 0) y2.2.1.ep).length:Int) * 72) < ((heldV t ((segs t).getD y2.1 0)).length:Int):=(by simpa using h17)
(q_read (r:=(stepR t y2.2.1 ((segs t).getD y2.1 0))) (read_last I3 (by omega) (by omega) h15 (by omega)) (turns_idx [0] (by decide) rfl)),
 fun h17=>have h17:¬ (((scanV t ((segs t).getD y2.1 0) y2.2.1.ep).length:Int) * 72) < ((heldV t ((segs t).getD y2.1 0)).length:Int):=(by simpa using h17)
⟨wrap_is (by omega) (by omega) (by omega),⟨((y2.1+1,(stepR t y2.2.1 ((segs t).getD y2.1 0)),(x16.1,x16.2)):Nat × RdS × (Option Addr × Nat)),(read_step I3 (by omega) (by omega) h15 (by omega)),(by dsimp only;omega),⟨rfl,rfl,(turns_idx [0,2] (by decide) rfl)⟩,rfl⟩⟩⟩⟩⟩⟩⟩⟩⟩⟩⟩⟩⟩⟩,
 fun h5=>have h5:¬ (y2.1:Int) < ((segs t).length:Int):=(by simpa using h5)
(q_read (r:=y2.2.1) (read_end I3 (by omega)) (turns_idx [0] (by decide) rfl))⟩⟩⟩)
end Go.Proofs.YtalhdalinpdanaaGreatDoor.wal
end
