/-
  WalI6
-/
import Derived.Test.YtalhdalinpdanaaGreatDoorMwd34
set_option linter.unusedVariables false
set_option linter.unusedSimpArgs false
namespace Go.Proofs.YtalhdalinpdanaaGreatDoor.wal
open Go.RowKit Go.Proofs.YtalhdalinpdanaaGreatDoor Go.Proofs.YtalhdalinpdanaaGreatDoor.frame Go.Proofs.YtalhdalinpdanaaGreatDoor.disk
set_option maxRecDepth 20000
abbrev RL:World→(Nat→Prop)→(Jv × Wl) × (Dv × DiskD)→Prop:=fun w S b=>InJ w S b.1.1 b.1.2∧InD w S b.2.1 b.2.2
theorem keeps_l:Keeps3 RL:=fun w w' S S' b h ha hs=>⟨h.1.keep ha.alike hs,h.2.keep ha.alike hs⟩
abbrev RW (r:Wl × DiskD × Int):World→(Nat→Prop)→Jv × Dv→Prop:=fun w S b=>InJ w S b.1 r.1∧InD w S b.2 r.2.1
theorem keeps_w (r:Wl × DiskD × Int):Keeps3 (RW r):=fun w w' S S' b h ha hs=>⟨h.1.keep ha.alike hs,h.2.keep ha.alike hs⟩
abbrev RD:World→(Nat→Prop)→Dv × DiskD→Prop:=fun w S b=>InD w S b.1 b.2
theorem keeps_dl:Keeps3 RD:=fun w w' S S' b h ha hs=>h.keep ha.alike hs
section
variable {S:Nat→Prop} {W:World}
abbrev nextL (y:Dat RL S W) (r:Wl × DiskD × Int) (z:Dat (RW r) (Un S y.1.2.1) y.1.1):Dat RL S W:=turn (glue keeps_l y (keeps_w r) z) (fun b=>((b.2.1,r.1),(b.2.2,r.2.1))) (fun _ _ _ h=>h.2)
abbrev nextD {d' : DiskD} (y:Dat RD S W) (z:Dat (fun w S v=>InD w S v d') (Un S y.1.2.1) y.1.1):Dat RD S W:=turn (glue keeps_dl y (keeps_d d') z) (fun b=>(b.2,d')) (fun _ _ _ h=>h.2)
theorem turns_glue2 {β γ:Type} {R:World→(Nat→Prop)→β→Prop} {R' : World→(Nat→Prop)→γ→Prop} {w0:World} (hK:Keeps3 R) (x:Dat R S W) (hK' : Keeps3 R') (z:Dat R' (Un S x.1.2.1) x.1.1) {E:List Fact} : Turns w0 (poolF z.1.1 z.1.2.1 :: poolF x.1.1 x.1.2.1 :: E) (poolF (glue hK x hK' z).1.1 (glue hK x hK' z).1.2.1 :: E):=fun h1 h2=>by
 obtain ⟨a1,a2⟩:=List.pairwise_cons.1 h2
 obtain ⟨b1,b2⟩:=List.pairwise_cons.1 a2
 refine ⟨fun f hf=>?_,List.pairwise_cons.2 ⟨fun g hg k hk hk2=>?_,b2⟩,fun f hf k hk=>?_,fun w' hw ha=>⟨fun k hk=>?_,ha.2.2⟩⟩
 ·rcases List.mem_cons.1 hf with rfl | hf
  ·exact poolF_stable _ _
  ·exact h1 f (List.mem_cons_of_mem _ (List.mem_cons_of_mem _ hf))
 ·rcases hk with hk | hk
  ·exact b1 g hg k hk hk2
  ·exact a1 g (List.mem_cons_of_mem _ hg) k hk hk2
 ·rcases List.mem_cons.1 hf with rfl | hf
  ·rcases hk with hk | hk
   ·exact ⟨poolF x.1.1 x.1.2.1,by simp,hk⟩
   ·exact ⟨poolF z.1.1 z.1.2.1,by simp,hk⟩
  ·exact ⟨f,List.mem_cons_of_mem _ (List.mem_cons_of_mem _ hf),hk⟩
 ·rcases hk with hk | hk
  ·exact (ha.2.1 k hk).trans (z.2.2.1 k (.inr hk)).symm
  ·exact ha.1 k hk
end
def commitA:Nat→Wl→DiskD→Wl × DiskD × Int
 | 0,s,t=>(s,t,0)
 |k+1,s,t=>if s.ws=[] then (s,t,0) else if (writeW s t).2.2=0 then commitA k (writeW s t).1 (writeW s t).2.1 else writeW s t
def commitL (s:Wl) (t:DiskD):Wl × DiskD × Int:=if fitsL s t=true then commitA 33 s t else (s,t,1)
theorem row_drop:∀ (l:List FrameD) (n e:Int) (k:Nat),(∀ f ∈ l,f.e=e)→k≤l.length→scan.row l n e=true→scan.row (l.drop k) (n+k) e=true
 |l,n,e,0,_,_,h=>by simpa using h
 | [],n,e,k+1,_,hk,_=>by simp at hk
 |f :: l,n,e,k+1,ha,hk,h=>by
  obtain ⟨h1,h2,h3,h4⟩:=(scan.row_cons _ _ _ _).1 h
  rw [ha f (by simp)] at h4
  have:=row_drop l (n+1) e k (fun g hg=>ha g (by simp [hg])) (by simpa using hk) h4
  rw [show n+((k+1:Nat):Int)=n+1+(k:Int) by omega]
  exact this
theorem step_right {s:Wl} (hr:right s=true) (hne:s.ws≠[]):right (stepW s)=true∧(stepW s).ws.length < s.ws.length:=by
 have hst:StepIs s (begun s).g (begun s).c:=⟨rfl,rfl⟩
 have h1:=step_rng hr hst;have h2:=right_facts hr;have h3:=room_8 hr hst;have h4:=room_le s;have h5:=ws_pos hne;have h6:=room_eq hr hst
 have e1:(stepW s).e=s.e∧(stepW s).n=s.n∧(stepW s).u=s.u+(room s:Int)∧(stepW s).g=(begun s).g∧(stepW s).c=(begun s).c+(room s:Int)∧(stepW s).ws=s.ws.drop (room s):=by
  unfold stepW begun
  split<;>exact ⟨rfl,rfl,rfl,rfl,rfl,rfl⟩
 obtain ⟨e1,e2,e3,e4,e5,e6⟩:=e1
 have hg:(begun s).g=s.u+1 - (begun s).c:=by
  unfold begun
  split
  ·simp
  ·rename_i hq;omega
 rw [right_split] at hr
 unfold waitsL at hr
 simp only [Bool.and_eq_true,decide_eq_true_eq,Bool.not_eq_true'] at hr
 obtain ⟨⟨_,⟨_,hrow⟩,hany⟩,_⟩:=hr
 have hall:∀ f ∈ s.ws,f.e=s.e:=fun f hf=>by
  have:=(List.any_eq_false.1 hany) f hf
  simpa using this
 have hlen:(s.ws.drop (room s)).length=s.ws.length - room s:=List.length_drop
 refine ⟨right_yes (by rw [e1,e2,e3];omega) (waits_yes (by rw [e2,e3,e6,hlen];omega) ?_ ?_) ?_,by rw [e6,hlen];omega⟩
 ·rw [e6,e3,e1,show s.u+(room s:Int)+1=s.u+1+(room s:Int) by omega]
  exact row_drop _ _ _ _ hall h4 hrow
 ·rw [e6,e1,List.any_eq_false]
  intro f hf
  simp [hall f (List.mem_of_mem_drop hf)]
 ·unfold segB
  rw [e3,e4,e5]
  exact decide_eq_true (by omega)
theorem write_zero {s:Wl} {t:DiskD} (h:(writeW s t).2.2=0):writeW s t=(stepW s,(syncD (appendD t (nameOf (stepW s).g) (scan.put (s.ws.take (room s)))).1 (nameOf (stepW s).g)).1,0):=by
 unfold writeW at h ⊢
 simp only at h ⊢
 split at h<;>rename_i h1
 ·split at h<;>rename_i h2
  ·rw [if_pos h1,if_pos h2]
  ·exact absurd h h2
 ·exact absurd h h1
theorem write_disk {s:Wl} {t:DiskD} (h:rightB t=true):rightB (writeW s t).2.1=true:=by
 unfold writeW
 simp only
 split
 ·split
  ·exact right_sync (right_append h)
  ·exact right_sync (right_append h)
 ·exact right_append h
section
variable {s a:Wl} {t b d:DiskD} {lsn L:Int} {i:Nat}
theorem fits_parts (h:fitsL s t=true):right s=true∧rightB t=true∧(segs t).any (fun x:Int=>decide (s.u < x))=false∧(s.g=0∨((heldV t s.g).length:Int)=s.c * 72):=by
 unfold fitsL at h
 simp only [Bool.and_eq_true,Bool.or_eq_true,decide_eq_true_eq,Bool.not_eq_true'] at h
 exact ⟨h.1.1,h.1.2,h.2.1,h.2.2⟩
theorem right_of_fits (h:fitsL s t=true):right s=true:=(fits_parts h).1
theorem rightB_of_fits (h:fitsL s t=true):rightB t=true:=(fits_parts h).2.1
theorem ws_ne (h:(0:Int) < (a.ws.length:Int)):a.ws≠[]:=fun e=>by rw [e] at h;simp at h
theorem commit_start (hr:right s=true) (hd:rightB t=true):right s=true∧rightB t=true∧∃ k:Nat,s.ws.length≤k∧commitA 33 s t=commitA k s t:=⟨hr,hd,33,by have:=right_facts hr;omega,rfl⟩
theorem commit_less (h:right a=true∧rightB b=true∧∃ k:Nat,a.ws.length≤k∧commitA 33 s t=commitA k a b) (hne:a.ws≠[]) (he:(writeW a b).2.2=0):(writeW a b).1.ws.length < a.ws.length:=by
 rw [write_zero he];exact (step_right h.1 hne).2
theorem commit_step (h:right a=true∧rightB b=true∧∃ k:Nat,a.ws.length≤k∧commitA 33 s t=commitA k a b) (hne:a.ws≠[]) (he:(writeW a b).2.2=0):right (writeW a b).1=true∧rightB (writeW a b).2.1=true∧∃ k:Nat,(writeW a b).1.ws.length≤k∧commitA 33 s t=commitA k (writeW a b).1 (writeW a b).2.1:=by
 have hl:=commit_less h hne he
 obtain ⟨h1,h2,k,h3,h4⟩:=h
 have hp:=ws_pos hne
 refine ⟨by rw [write_zero he];exact (step_right h1 hne).1,write_disk h2,k - 1,by omega,?_⟩
 rw [h4]
 obtain ⟨k,rfl⟩:∃ j,k=j+1:=⟨k - 1,by omega⟩
 rw [commitA,if_neg hne,if_pos he]
 rfl
theorem c_no (h:fitsL s t=false):commitL s t=(s,t,1):=by unfold commitL;rw [if_neg (by rw [h];simp)]
theorem c_err (hf:fitsL s t=true) (h:right a=true∧rightB b=true∧∃ k:Nat,a.ws.length≤k∧commitA 33 s t=commitA k a b) (hne:a.ws≠[]) (he:¬ (writeW a b).2.2=0):commitL s t=((writeW a b).1,(writeW a b).2.1,(writeW a b).2.2):=by
 obtain ⟨h1,h2,k,h3,h4⟩:=h
 have hp:=ws_pos hne
 unfold commitL
 rw [if_pos hf,h4]
 obtain ⟨k,rfl⟩:∃ j,k=j+1:=⟨k - 1,by omega⟩
 rw [commitA,if_neg hne,if_neg he]
theorem c_end (hf:fitsL s t=true) (h:right a=true∧rightB b=true∧∃ k:Nat,a.ws.length≤k∧commitA 33 s t=commitA k a b) (hne:a.ws.length=0):commitL s t=(a,b,0):=by
 obtain ⟨h1,h2,k,h3,h4⟩:=h
 unfold commitL
 rw [if_pos hf,h4]
 cases k with
 |zero=>rfl
 |succ k=>rw [commitA,if_pos (List.eq_nil_of_length_eq_zero hne)]
def dropA (g u lsn:Int):List Int→DiskD→DiskD × Int
 | [],d=>(d,0)
 |a :: r,d =>
  if lsn < (match r with | b :: _=>b - 1 | []=>u) then (d,0)
  else if a=g then dropA g u lsn r d
  else if (removeD d (nameV a)).2=0 then dropA g u lsn r (removeD d (nameV a)).1 else removeD d (nameV a)
def dropL (s:Wl) (t:DiskD) (lsn:Int):DiskD × Int:=if fitsL s t=true then dropA s.g s.u lsn (segs t) t else (t,1)
def lastOf (u:Int) (l:List Int) (i:Nat):Int:=if i+1 < l.length then l.getD (i+1) 0 - 1 else u
theorem last_mid {l:List Int} {u:Int} (h:i+1 < l.length):lastOf u l i=l.getD (i+1) 0 - 1:=if_pos h
theorem last_end {l:List Int} {u:Int} (h:¬ i+1 < l.length):lastOf u l i=u:=if_neg h
theorem dropA_cons {g u:Int} (a:Int) (r:List Int):dropA g u lsn (a :: r) d=if lsn < (match r with | b :: _=>b - 1 | []=>u) then (d,0) else if a=g then dropA g u lsn r d else if (removeD d (nameV a)).2=0 then dropA g u lsn r (removeD d (nameV a)).1 else removeD d (nameV a):=by
 cases r<;>rfl
theorem drop_unfold {g u:Int} {l:List Int} (hi:i < l.length):dropA g u lsn (l.drop i) d=if lsn < lastOf u l i then (d,0) else if l.getD i 0=g then dropA g u lsn (l.drop (i+1)) d else if (removeD d (nameV (l.getD i 0))).2=0 then dropA g u lsn (l.drop (i+1)) (removeD d (nameV (l.getD i 0))).1 else removeD d (nameV (l.getD i 0)):=by
 rw [List.drop_eq_getElem_cons hi,dropA_cons]
 have e1:l.getD i 0=l[i]:=by rw [List.getD_eq_getElem?_getD,List.getElem?_eq_getElem hi];rfl
 have e2:(match l.drop (i+1) with | b :: _=>b - 1 | []=>u)=lastOf u l i:=by
  unfold lastOf
  split
  ·rename_i b r hb
   have hlt:i+1 < l.length:=by
    rcases Nat.lt_or_ge (i+1) l.length with h | h
    ·exact h
    ·rw [List.drop_of_length_le h] at hb;cases hb
   rw [if_pos hlt]
   rw [List.drop_eq_getElem_cons hlt] at hb
   injection hb with hb
   rw [List.getD_eq_getElem?_getD,List.getElem?_eq_getElem hlt,← hb];rfl
  ·rename_i hb
   rw [if_neg]
   intro hlt
   rw [List.drop_eq_getElem_cons hlt] at hb;cases hb
 rw [e1,e2]
theorem segs_rng (t:DiskD):∀ n ∈ segs t,1≤n∧n≤1000000000:=fun n hn=>by
 unfold segs at hn
 split at hn
 ·obtain ⟨h1,h2⟩:=List.mem_filter.1 hn
  obtain ⟨f,_,rfl⟩:=List.mem_map.1 h1
  have:=numOf_le f.name
  simp at h2
  omega
 ·cases hn
theorem seg_rng {l:List Int} {k:Nat} (h:∀ n ∈ l,1≤n∧n≤1000000000) (hk:k < l.length):1≤l.getD k 0∧l.getD k 0≤1000000000:=by
 rw [List.getD_eq_getElem?_getD,List.getElem?_eq_getElem hk]
 exact h _ (List.getElem_mem hk)
theorem seg_in {l:List Int} {k:Nat} (h:∀ n ∈ l,1≤n∧n≤1000000000) (hk:k < l.length):inI (l.getD k 0):=by
 have:=seg_rng h hk;unfold inI;omega
abbrev DropI (s:Wl) (t:DiskD) (lsn:Int) (i:Nat) (d:DiskD):Prop:=i≤(segs t).length∧rightB d=true∧dropA s.g s.u lsn (segs t) t=dropA s.g s.u lsn ((segs t).drop i) d
theorem drop_skip (h:DropI s t lsn i d) (hi:i < (segs t).length) (hl:lastOf s.u (segs t) i=L) (hn:¬ lsn < L) (he:(segs t).getD i 0=s.g):DropI s t lsn (i+1) d :=
 ⟨hi,h.2.1,by rw [h.2.2,drop_unfold hi,hl,if_neg hn,if_pos he]⟩
theorem drop_step (h:DropI s t lsn i d) (hi:i < (segs t).length) (hl:lastOf s.u (segs t) i=L) (hn:¬ lsn < L) (he:¬ (segs t).getD i 0=s.g) (hx:(removeD d (nameV ((segs t).getD i 0))).2=0):DropI s t lsn (i+1) (removeD d (nameV ((segs t).getD i 0))).1 :=
 ⟨hi,right_remove h.2.1,by rw [h.2.2,drop_unfold hi,hl,if_neg hn,if_neg he,if_pos hx]⟩
theorem dr_no (h:fitsL s t=false):dropL s t lsn=(t,1):=by unfold dropL;rw [if_neg (by rw [h];simp)]
theorem dr_stop (hf:fitsL s t=true) (h:DropI s t lsn i d) (hi:i < (segs t).length) (hl:lastOf s.u (segs t) i=L) (hn:lsn < L):dropL s t lsn=(d,0):=by
 unfold dropL;rw [if_pos hf,h.2.2,drop_unfold hi,hl,if_pos hn]
theorem dr_err (hf:fitsL s t=true) (h:DropI s t lsn i d) (hi:i < (segs t).length) (hl:lastOf s.u (segs t) i=L) (hn:¬ lsn < L) (he:¬ (segs t).getD i 0=s.g) (hx:¬ (removeD d (nameV ((segs t).getD i 0))).2=0):dropL s t lsn=((removeD d (nameV ((segs t).getD i 0))).1,(removeD d (nameV ((segs t).getD i 0))).2):=by
 unfold dropL;rw [if_pos hf,h.2.2,drop_unfold hi,hl,if_neg hn,if_neg he,if_neg hx]
theorem dr_end (hf:fitsL s t=true) (h:DropI s t lsn i d) (hi:(segs t).length≤i):dropL s t lsn=(d,0):=by
 unfold dropL;rw [if_pos hf,h.2.2,List.drop_of_length_le hi];rfl
end
section
variable {w0 W:World} {D:List Fact} {S:Nat→Prop} {v:Jv} {s:Wl} {u:Dv} {t:DiskD}
theorem g_written (hF : Fixed w0 D S W) (hj : ∀ w, Below w0.heap.size w0 w → All D w → InJ w S v s) (hd : ∀ w, Below w0.heap.size w0 w → All D w → InD w S u t) (hr : right s = true) (hdr : rightB t = true) (hne : s.ws ≠ []) (ht : Lib.TabIs Tryz.prog w0 "internal/strconv.uint64pow10" .u64 Lib.pow10Tab) :
  GivesM Tryz.prog w0 D 37 #[.agg (jc v s),.agg (dc u t)] (Dat (RW (writeW s t)) S W) (fun x=>.tuple #[.agg (jc x.1.2.2.1 (writeW s t).1),.agg (dc x.1.2.2.2 (writeW s t).2.1),.int .i64 (writeW s t).2.2]) (fun x=>[poolF x.1.1 x.1.2.1]) :=
 gives_dat (R:=RW (writeW s t)) (r:=fun b=>.tuple #[.agg (jc b.1 (writeW s t).1),.agg (dc b.2 (writeW s t).2.1),.int .i64 (writeW s t).2.2]) hF (fun w hw ha=>v_written v s u t S w (hj w hw ha) (hd w hw ha) (hF w hw ha).2 hr hdr hne (var_later ht hw))
theorem g_remove {nm:ByteArray} (hF:Fixed w0 D S W) (hin:∀ w,Below w0.heap.size w0 w→All D w→InD w S u t) (hs:shortB t.files=true) (hn:nm.size≤100) :
  GivesM Tryz.prog w0 D 42 #[.agg (dc u t),.string nm] (Dat (fun w S v=>InD w S v (removeD t nm).1) S W) (fun x=>.tuple #[.agg (dc x.1.2.2 (removeD t nm).1),.int .i64 (removeD t nm).2]) (fun x=>[poolF x.1.1 x.1.2.1]) :=
 gives_dat (R:=fun w S v=>InD w S v (removeD t nm).1) (r:=fun b=>.tuple #[.agg (dc b (removeD t nm).1),.int .i64 (removeD t nm).2]) hF (fun w hw ha=>d_remove (hF w hw ha).2 (hin w hw ha) hs hn)
theorem q_d {u' : Dv} {d' : DiskD} {e:Int} {r:DiskD × Int} (hr:r=(d',e)) (hd:∀ w',Below w0.heap.size w0 w'→All D w'→(∀ f ∈ D,∀ k,f.S k→w0.heap.size≤k∧k < w'.heap.size)→InD w' (Nw S w0 w') u' d') :
  ∃ x:Dv,(.tuple #[.agg (dc u' d'),.int .i64 e]:Value) = .tuple #[.agg (dc x r.1),.int .i64 r.2]∧Concl w0 D (fun w'=>InD w' (Nw S w0 w') x r.1):=by
 subst hr
 exact ⟨u',rfl,fun w' hb ha hy=>hd w' hb ha hy⟩
end
theorem v_commit (v : Jv) (s : Wl) (u : Dv) (t : DiskD) (S : Nat → Prop)  (w : World) (h0 : InJ w S v s) (hd0 : InD w S u t) (hS : ∀ k, S k → k < w.heap.size) (hs : shortB t.files = true) (ht : Lib.TabIs Tryz.prog w "internal/strconv.uint64pow10" .u64 Lib.pow10Tab) (he : ErrVar w) : Calls Tryz.prog 16 #[.agg (jc v s), .agg (dc u t)] w fun e w' => ∃ x : Jv × Dv, e = .returned (.tuple #[.agg (jc x.1 (commitL s t).1), .agg (dc x.2 (commitL s t).2.1), .int .i64 (commitL s t).2.2]) ∧ Below w.heap.size w w' ∧ (fun w' => InJ w' (Nw S w w') x.1 (commitL s t).1 ∧ InD w' (Nw S w w') x.2 (commitL s t).2.1) w' :=
 have h:=h0.all hS
 have hd:=hd0.all hS
 calls_q (fn:=Tryz.f16) (r:=fun (x:Jv × Dv)=>.tuple #[.agg (jc x.1 (commitL s t).1),.agg (dc x.2 (commitL s t).2.1),.int .i64 (commitL s t).2.2]) (Q:=fun (x:Jv × Dv)=>fun w'=>InJ w' (Nw S w w') x.1 (commitL s t).1∧InD w' (Nw S w w') x.2 (commitL s t).2.1) (t:=.cs (fitsL s t) (.l (Dat RL S w) (fun x=>[(2,undef,some (0,0)),(3,undef,some (1,0)),(4,undef,some (2,0)),(5,undef,some (3,0))]) (fun x=>[(0,#[.int .i64 x.1.2.2.1.2.e,.int .i64 x.1.2.2.1.2.n,.int .i64 x.1.2.2.1.2.u,.int .i64 x.1.2.2.1.2.g,.int .i64 x.1.2.2.1.2.c,.slice x.1.2.2.1.1.A x.1.2.2.1.2.ws.length x.1.2.2.1.1.c]),(1,#[.slice x.1.2.2.2.1.A x.1.2.2.2.2.files.length x.1.2.2.2.1.c,.int .i64 x.1.2.2.2.2.room,.int .i64 x.1.2.2.2.2.fuse,.bool x.1.2.2.2.2.down])]) [0,1,2,3] [poolF w (fun _=>False)] (fun x=>[poolF x.1.1 x.1.2.1]) (fun x=>right x.1.2.2.1.2=true∧rightB x.1.2.2.2.2=true∧∃ k:Nat,x.1.2.2.1.2.ws.length≤k∧commitA 33 s t=commitA k x.1.2.2.1.2 x.1.2.2.2.2) (fun x=>x.1.2.2.1.2.ws.length) (given_ (R:=RL) (b:=((v,s),(u,t))) ⟨h0,hd0⟩ keeps_l:Dat RL S w) (fun y2=>let k0:=writeW y2.1.2.2.1.2 y2.1.2.2.2.2; .s (.cm (Dat (RW k0) (Un S y2.1.2.1) y2.1.1) (fun x=>.tuple #[.agg (jc x.1.2.2.1 (k0.1)),.agg (dc x.1.2.2.2 (k0.2.1)),.int .i64 (k0.2.2)]) (fun x=>[poolF x.1.1 x.1.2.1]) (fun x6=>.s (.o [2,3] .z) .z)) (.o [2,3] .z))) (.o [2,3] .z)) (X :=
 let k0:Array Value:=#[.int .i64 0,.int .i64 0,.int .i64 0,.int .i64 0,.int .i64 0,.slice none 0 0];let k1:Array Value:=#[.slice none 0 0,.int .i64 0,.int .i64 0,.bool false]; ∀ g0:Nat,let k2:Option Addr:=some ⟨g0,0,none⟩;  ∀ g1:Nat,let k3:Option Addr:=some ⟨g1,0,none⟩;  ∀ g2:Nat,let k4:Option Addr:=some ⟨g2,0,none⟩;  ∀ g3:Nat,let k6:Option Addr:=some ⟨g3,0,none⟩;let k5:=([.pointer k2,.pointer k3,.pointer k4,.pointer k6]:List Value);Gives Tryz.prog w [] 36 #[.agg (jc v s),.agg (dc u t)] (.bool (fitsL s t))∧((fitsL s t)=true→Brings w [] [poolF w (fun _=>False)]∧(right (given_ (R:=RL) (b:=((v,s),(u,t))) ⟨h0,hd0⟩ keeps_l:Dat RL S w).1.2.2.1.2=true∧rightB (given_ (R:=RL) (b:=((v,s),(u,t))) ⟨h0,hd0⟩ keeps_l:Dat RL S w).1.2.2.2.2=true∧∃ k:Nat,(given_ (R:=RL) (b:=((v,s),(u,t))) ⟨h0,hd0⟩ keeps_l:Dat RL S w).1.2.2.1.2.ws.length≤k∧commitA 33 s t=commitA k (given_ (R:=RL) (b:=((v,s),(u,t))) ⟨h0,hd0⟩ keeps_l:Dat RL S w).1.2.2.1.2 (given_ (R:=RL) (b:=((v,s),(u,t))) ⟨h0,hd0⟩ keeps_l:Dat RL S w).1.2.2.2.2)∧(k5=[.pointer k2,.pointer k3,.pointer k4,.pointer k6]∧([some ⟨g3,0,k1,.own 27⟩,some ⟨g2,0,k0,.own 24⟩,some ⟨g1,0,(dc u t),.own 27⟩,some ⟨g0,0,(jc v s),.own 24⟩]:List (Option Blk))=[some ⟨g3,0,k1,.own 27⟩,some ⟨g2,0,k0,.own 24⟩,some ⟨g1,0,#[.slice ((given_ (R:=RL) (b:=((v,s),(u,t))) ⟨h0,hd0⟩ keeps_l:Dat RL S w).1.2.2.2.1.A) ((given_ (R:=RL) (b:=((v,s),(u,t))) ⟨h0,hd0⟩ keeps_l:Dat RL S w).1.2.2.2.2.files.length) ((given_ (R:=RL) (b:=((v,s),(u,t))) ⟨h0,hd0⟩ keeps_l:Dat RL S w).1.2.2.2.1.c),.int .i64 ((given_ (R:=RL) (b:=((v,s),(u,t))) ⟨h0,hd0⟩ keeps_l:Dat RL S w).1.2.2.2.2.room),.int .i64 ((given_ (R:=RL) (b:=((v,s),(u,t))) ⟨h0,hd0⟩ keeps_l:Dat RL S w).1.2.2.2.2.fuse),.bool ((given_ (R:=RL) (b:=((v,s),(u,t))) ⟨h0,hd0⟩ keeps_l:Dat RL S w).1.2.2.2.2.down)],.own 27⟩,some ⟨g0,0,#[.int .i64 ((given_ (R:=RL) (b:=((v,s),(u,t))) ⟨h0,hd0⟩ keeps_l:Dat RL S w).1.2.2.1.2.e),.int .i64 ((given_ (R:=RL) (b:=((v,s),(u,t))) ⟨h0,hd0⟩ keeps_l:Dat RL S w).1.2.2.1.2.n),.int .i64 ((given_ (R:=RL) (b:=((v,s),(u,t))) ⟨h0,hd0⟩ keeps_l:Dat RL S w).1.2.2.1.2.u),.int .i64 ((given_ (R:=RL) (b:=((v,s),(u,t))) ⟨h0,hd0⟩ keeps_l:Dat RL S w).1.2.2.1.2.g),.int .i64 ((given_ (R:=RL) (b:=((v,s),(u,t))) ⟨h0,hd0⟩ keeps_l:Dat RL S w).1.2.2.1.2.c),.slice ((given_ (R:=RL) (b:=((v,s),(u,t))) ⟨h0,hd0⟩ keeps_l:Dat RL S w).1.2.2.1.1.A) ((given_ (R:=RL) (b:=((v,s),(u,t))) ⟨h0,hd0⟩ keeps_l:Dat RL S w).1.2.2.1.2.ws.length) ((given_ (R:=RL) (b:=((v,s),(u,t))) ⟨h0,hd0⟩ keeps_l:Dat RL S w).1.2.2.1.1.c)],.own 24⟩]∧Turns w [poolF w (fun _=>False)] [poolF (given_ (R:=RL) (b:=((v,s),(u,t))) ⟨h0,hd0⟩ keeps_l:Dat RL S w).1.1 (given_ (R:=RL) (b:=((v,s),(u,t))) ⟨h0,hd0⟩ keeps_l:Dat RL S w).1.2.1])∧true=true∧∀ (y2:Dat RL S w),let k7:=writeW y2.1.2.2.1.2 y2.1.2.2.2.2;let k8:=decide ((y2.1.2.2.1.2.ws.length:Int) > 0);let k9:=jc y2.1.2.2.1.1 y2.1.2.2.1.2;let k10:=dc y2.1.2.2.2.1 y2.1.2.2.2.2;(right y2.1.2.2.1.2=true∧rightB y2.1.2.2.2.2=true∧∃ k:Nat,y2.1.2.2.1.2.ws.length≤k∧commitA 33 s t=commitA k y2.1.2.2.1.2 y2.1.2.2.2.2)→∀ τ4:Nat→Value,(k8=true→GivesM Tryz.prog w [poolF y2.1.1 y2.1.2.1] 37 #[.agg k9,.agg k10] (Dat (RW k7) (Un S y2.1.2.1) y2.1.1) (fun x=>.tuple #[.agg (jc x.1.2.2.1 (k7.1)),.agg (dc x.1.2.2.2 (k7.2.1)),.int .i64 (k7.2.2)]) (fun x=>[poolF x.1.1 x.1.2.1])∧∀ x6:Dat (RW k7) (Un S y2.1.2.1) y2.1.1,let k11:List Fact:=[poolF x6.1.1 x6.1.2.1,poolF y2.1.1 y2.1.2.1];((!decide ((k7.2.2)=0))=true→∃ x:Jv × Dv,(.tuple #[.agg (jc x6.1.2.2.1 (k7.1)),.agg (dc x6.1.2.2.2 (k7.2.1)),.int .i64 (k7.2.2)]:Value) = .tuple #[.agg (jc x.1 (commitL s t).1),.agg (dc x.2 (commitL s t).2.1),.int .i64 (commitL s t).2.2]∧Concl w k11 (fun w'=>InJ w' (Nw S w w') x.1 (commitL s t).1∧InD w' (Nw S w w') x.2 (commitL s t).2.1))∧((!decide ((k7.2.2)=0))=false→∃ x' : Dat RL S w,(right x'.1.2.2.1.2=true∧rightB x'.1.2.2.2.2=true∧∃ k:Nat,x'.1.2.2.1.2.ws.length≤k∧commitA 33 s t=commitA k x'.1.2.2.1.2 x'.1.2.2.2.2)∧(x'.1.2.2.1.2.ws.length < y2.1.2.2.1.2.ws.length)∧(k5=[.pointer k2,.pointer k3,.pointer k4,.pointer k6]∧([some ⟨g3,0,k1,.own 27⟩,some ⟨g2,0,k0,.own 24⟩,some ⟨g1,0,(dc x6.1.2.2.2 (k7.2.1)),.own 27⟩,some ⟨g0,0,(jc x6.1.2.2.1 (k7.1)),.own 24⟩]:List (Option Blk))=[some ⟨g3,0,k1,.own 27⟩,some ⟨g2,0,k0,.own 24⟩,some ⟨g1,0,#[.slice x'.1.2.2.2.1.A x'.1.2.2.2.2.files.length x'.1.2.2.2.1.c,.int .i64 x'.1.2.2.2.2.room,.int .i64 x'.1.2.2.2.2.fuse,.bool x'.1.2.2.2.2.down],.own 27⟩,some ⟨g0,0,#[.int .i64 x'.1.2.2.1.2.e,.int .i64 x'.1.2.2.1.2.n,.int .i64 x'.1.2.2.1.2.u,.int .i64 x'.1.2.2.1.2.g,.int .i64 x'.1.2.2.1.2.c,.slice x'.1.2.2.1.1.A x'.1.2.2.1.2.ws.length x'.1.2.2.1.1.c],.own 24⟩]∧Turns w k11 [poolF x'.1.1 x'.1.2.1])∧true=true))∧(k8=false→∃ x:Jv × Dv,(.tuple #[.agg k9,.agg k10,.int .i64 0]:Value) = .tuple #[.agg (jc x.1 (commitL s t).1),.agg (dc x.2 (commitL s t).2.1),.int .i64 (commitL s t).2.2]∧Concl w [poolF y2.1.1 y2.1.2.1] (fun w'=>InJ w' (Nw S w w') x.1 (commitL s t).1∧InD w' (Nw S w w') x.2 (commitL s t).2.1)))∧((fitsL s t)=false→∃ x:Jv × Dv,(.tuple #[.agg (jc v s),.agg (dc u t),.int .i64 1]:Value) = .tuple #[.agg (jc x.1 (commitL s t).1),.agg (dc x.2 (commitL s t).2.1),.int .i64 (commitL s t).2.2]∧Concl w [] (fun w'=>InJ w' (Nw S w w') x.1 (commitL s t).1∧InD w' (Nw S w w') x.2 (commitL s t).2.1))) Tryz.func16 (by kernel_rfl)
 (fun g0=>fun g1=>fun g2=>fun g3=>⟨(fun w1 hw _=>v_fits v s u t w1 (h.later hw) (hd.later hw) hs (var_later ht hw) (ev_later he hw)),fun h1=>⟨(fun _ _ _=>news_pool0),(commit_start (right_of_fits h1) (rightB_of_fits h1)),⟨rfl,rfl,(turns_sub (.cons_cons _ (List.nil_sublist _)))⟩,rfl,fun y2 I3 τ4=>⟨fun h5=>have h5:0 < (y2.1.2.2.1.2.ws.length:Int):=(by simpa using h5)
⟨(g_written (fixed_next (fixed_low hS) y2 (i:=0) rfl) (fun w1 hw ha=>((dat_in keeps_l (fixed_low hS) y2 (i:=0) rfl w1 hw ha).1)) (fun w1 hw ha=>((dat_in keeps_l (fixed_low hS) y2 (i:=0) rfl w1 hw ha).2)) I3.1 I3.2.1 (ws_ne h5) ht),fun x6=>⟨fun h7=>have h7:¬ ((writeW y2.1.2.2.1.2 y2.1.2.2.2.2).2.2)=0:=(by simpa using h7)
(q_jd (c_err h1 I3 (ws_ne h5) h7) (fun w1 hb ha hy=>(dat_new (keeps_w (writeW y2.1.2.2.1.2 y2.1.2.2.2.2)) (fixed_next (fixed_low hS) y2 (i:=1) rfl) x6 (i:=0) rfl hb ha hy (new_un (i:=1) rfl hy new_base)).1) (fun w1 hb ha hy=>(dat_new (keeps_w (writeW y2.1.2.2.1.2 y2.1.2.2.2.2)) (fixed_next (fixed_low hS) y2 (i:=1) rfl) x6 (i:=0) rfl hb ha hy (new_un (i:=1) rfl hy new_base)).2)),
 fun h7=>have h7:((writeW y2.1.2.2.1.2 y2.1.2.2.2.2).2.2)=0:=(by simpa using h7)
⟨(nextL y2 (writeW y2.1.2.2.1.2 y2.1.2.2.2.2) x6:Dat RL S w),(commit_step I3 (ws_ne h5) h7),(commit_less I3 (ws_ne h5) h7),⟨rfl,rfl,(turns_glue keeps_l y2 (keeps_w (writeW y2.1.2.2.1.2 y2.1.2.2.2.2)) x6)⟩,rfl⟩⟩⟩,
 fun h5=>have h5:¬ 0 < (y2.1.2.2.1.2.ws.length:Int):=(by simpa using h5)
(q_jd (c_end h1 I3 (by omega)) (fun w1 hb ha hy=>(dat_new keeps_l (fixed_low hS) y2 (i:=0) rfl hb ha hy new_base).1) (fun w1 hb ha hy=>(dat_new keeps_l (fixed_low hS) y2 (i:=0) rfl hb ha hy new_base).2))⟩⟩,
 fun h1=>(q_jd (c_no h1) (fun w1 hb ha hy=>(h0.keep (low_alike hS hb) (fun _ h=>.inl h))) (fun w1 hb ha hy=>(hd0.keep (low_alike hS hb) (fun _ h=>.inl h))))⟩)
theorem v_drop (v : Jv) (s : Wl) (u : Dv) (t : DiskD) (lsn : Int) (S : Nat → Prop)  (w : World) (h0 : InJ w S v s) (hd0 : InD w S u t) (hS : ∀ k, S k → k < w.heap.size) (hs : shortB t.files = true) (ht : Lib.TabIs Tryz.prog w "internal/strconv.uint64pow10" .u64 Lib.pow10Tab) (he : ErrVar w) : Calls Tryz.prog 19 #[.agg (jc v s), .agg (dc u t), .int .i64 lsn] w fun e w' => ∃ x : Dv, e = .returned (.tuple #[.agg (dc x (dropL s t lsn).1), .int .i64 (dropL s t lsn).2]) ∧ Below w.heap.size w w' ∧ (fun w' => InD w' (Nw S w w') x (dropL s t lsn).1) w' :=
 have h:=h0.all hS
 have hd:=hd0.all hS
 have hsl:=segs_len hs
 calls_q (fn:=Tryz.f19) (r:=fun (x:Dv)=>.tuple #[.agg (dc x (dropL s t lsn).1),.int .i64 (dropL s t lsn).2]) (Q:=fun (x:Dv)=>fun w'=>InD w' (Nw S w w') x (dropL s t lsn).1) (t:=let k0:=(segs t).length;let k1:=((segs t).length:Int); .cs (fitsL s t) (.cm (Option Addr × Nat) (fun x=>.slice x.1 k0 x.2) (fun x=>[ownF (rdInt .i64) 1 2 x.1 k0 x.2 (segs t)]) (fun x2=>.l (Nat × Dat RD S w) (fun x=>[(2,.int .i64 lsn,none),(3,undef,some (0,0)),(4,undef,some (1,0)),(6,undef,some (2,0)),(8,.slice x2.1 k0 x2.2,none),(20,.slice x2.1 k0 x2.2,none),(21,.int .i64 k1,none),(22,.int .i64 (x.1:Int),none)]) (fun x=>[(1,#[.slice x.2.1.2.2.1.A x.2.1.2.2.2.files.length x.2.1.2.2.1.c,.int .i64 x.2.1.2.2.2.room,.int .i64 x.2.1.2.2.2.fuse,.bool x.2.1.2.2.2.down])]) [0,1,2] [poolF w (fun _=>False)] (fun x=>[poolF x.2.1.1 x.2.1.2.1,ownF (rdInt .i64) 1 2 x2.1 k0 x2.2 (segs t)]) (fun x=>x.1≤(segs t).length∧rightB x.2.1.2.2.2=true∧dropA s.g s.u lsn (segs t) t=dropA s.g s.u lsn ((segs t).drop x.1) x.2.1.2.2.2) (fun x=>(segs t).length - x.1) ((0,given_ (R:=RD) (b:=(u,t)) hd0 keeps_dl):Nat × Dat RD S w) (fun y3=>let k4:=(segs t).getD y3.1 0;let k2:=removeD y3.2.1.2.2.2 (nameV k4);let k5:=(y3.1+1:Nat);let k3:Value:=.int .i64 (k5:Int); .s (.q (blkA x2.1) (offA x2.1+y3.1 * 1) #[.int .i64 k4] (.j 10 (Int) (fun x=>[(2,.int .i64 lsn,none),(3,undef,some (0,0)),(4,undef,some (1,0)),(6,undef,some (2,0)),(8,.slice x2.1 k0 x2.2,none),(10,.int .i64 k4,none),(11,.int .i64 x,none),(20,.slice x2.1 k0 x2.2,none),(21,.int .i64 k1,none),(22,.int .i64 (y3.1:Int),none)]) (fun x=>[]) [0,1,2] (fun x=>[poolF y3.2.1.1 y3.2.1.2.1,ownF (rdInt .i64) 1 2 x2.1 k0 x2.2 (segs t)]) (fun x=>lastOf s.u (segs t) y3.1=x) (fun x=>[]) 4 (.e k3 (.s (.e k3 (.q (blkA x2.1) (offA x2.1+k5 * 1) #[.int .i64 ((segs t).getD k5 0)] (.e (.int .i64 (((segs t).getD k5 0) - 1)) .z))) .z)) (fun y7=>.s .z (.s (.e k3 .z) (.o [1] (.two (.c (.string (nameV k4)) (.cm (Dat (fun w S v=>InD w S v (k2.1)) (Un S y3.2.1.2.1) y3.2.1.1) (fun x=>.tuple #[.agg (dc x.1.2.2 (k2.1)),.int .i64 (k2.2)]) (fun x=>[poolF x.1.1 x.1.2.1]) (fun x13=>.s .z (.e k3 .z)))) (.c (.string (nameV k4)) (.cm (Dat (fun w S v=>InD w S v (k2.1)) (Un S y3.2.1.2.1) y3.2.1.1) (fun x=>.tuple #[.agg (dc x.1.2.2 (k2.1)),.int .i64 (k2.2)]) (fun x=>[poolF x.1.1 x.1.2.1]) (fun x15=>.s .z (.e k3 .z)))))))))) .z))) .z) (X :=
 let k0:=(segs t).length;let k1:Array Value:=#[.slice none 0 0,.int .i64 0,.int .i64 0,.bool false];let k2:=((segs t).length:Int);let k3:=dropL s t lsn; ∀ g0:Nat,let k4:Option Addr:=some ⟨g0,0,none⟩;  ∀ g1:Nat,let k5:Option Addr:=some ⟨g1,0,none⟩;  ∀ g2:Nat,let k6:Option Addr:=some ⟨g2,0,none⟩;Gives Tryz.prog w [] 36 #[.agg (jc v s),.agg (dc u t)] (.bool (fitsL s t))∧((fitsL s t)=true→GivesM Tryz.prog w [] 21 #[.agg (dc u t)] (Option Addr × Nat) (fun x=>.slice x.1 k0 x.2) (fun x=>[ownF (rdInt .i64) 1 2 x.1 k0 x.2 (segs t)])∧∀ x2:Option Addr × Nat,Brings w [ownF (rdInt .i64) 1 2 x2.1 k0 x2.2 (segs t)] [poolF w (fun _=>False)]∧(((0,given_ (R:=RD) (b:=(u,t)) hd0 keeps_dl):Nat × Dat RD S w).1≤(segs t).length∧rightB ((0,given_ (R:=RD) (b:=(u,t)) hd0 keeps_dl):Nat × Dat RD S w).2.1.2.2.2=true∧dropA s.g s.u lsn (segs t) t=dropA s.g s.u lsn ((segs t).drop ((0,given_ (R:=RD) (b:=(u,t)) hd0 keeps_dl):Nat × Dat RD S w).1) ((0,given_ (R:=RD) (b:=(u,t)) hd0 keeps_dl):Nat × Dat RD S w).2.1.2.2.2)∧(([.int .i64 lsn,.pointer k4,.pointer k5,.pointer k6,.slice x2.1 k0 x2.2,.slice x2.1 k0 x2.2,.int .i64 k2,.int .i64 0]:List Value)=[.int .i64 lsn,.pointer k4,.pointer k5,.pointer k6,.slice x2.1 k0 x2.2,.slice x2.1 k0 x2.2,.int .i64 k2,.int .i64 (((0,given_ (R:=RD) (b:=(u,t)) hd0 keeps_dl):Nat × Dat RD S w).1:Int)]∧([some ⟨g2,0,k1,.own 27⟩,some ⟨g1,0,(dc u t),.own 27⟩,some ⟨g0,0,(jc v s),.own 24⟩]:List (Option Blk))=[some ⟨g2,0,k1,.own 27⟩,some ⟨g1,0,#[.slice (((0,given_ (R:=RD) (b:=(u,t)) hd0 keeps_dl):Nat × Dat RD S w).2.1.2.2.1.A) (((0,given_ (R:=RD) (b:=(u,t)) hd0 keeps_dl):Nat × Dat RD S w).2.1.2.2.2.files.length) (((0,given_ (R:=RD) (b:=(u,t)) hd0 keeps_dl):Nat × Dat RD S w).2.1.2.2.1.c),.int .i64 (((0,given_ (R:=RD) (b:=(u,t)) hd0 keeps_dl):Nat × Dat RD S w).2.1.2.2.2.room),.int .i64 (((0,given_ (R:=RD) (b:=(u,t)) hd0 keeps_dl):Nat × Dat RD S w).2.1.2.2.2.fuse),.bool (((0,given_ (R:=RD) (b:=(u,t)) hd0 keeps_dl):Nat × Dat RD S w).2.1.2.2.2.down)],.own 27⟩,some ⟨g0,0,(jc v s),.own 24⟩]∧Turns w [poolF w (fun _=>False),ownF (rdInt .i64) 1 2 x2.1 k0 x2.2 (segs t)] [poolF ((0,given_ (R:=RD) (b:=(u,t)) hd0 keeps_dl):Nat × Dat RD S w).2.1.1 ((0,given_ (R:=RD) (b:=(u,t)) hd0 keeps_dl):Nat × Dat RD S w).2.1.2.1,ownF (rdInt .i64) 1 2 x2.1 k0 x2.2 (segs t)])∧true=true∧∀ (y3:Nat × Dat RD S w),let k7:List Fact:=[poolF y3.2.1.1 y3.2.1.2.1,ownF (rdInt .i64) 1 2 x2.1 k0 x2.2 (segs t)];let k11:=(segs t).getD y3.1 0;let k8:=removeD y3.2.1.2.2.2 (nameV k11);let k13:=(y3.1+1:Nat);let k9:=([.int .i64 lsn,.pointer k4,.pointer k5,.pointer k6,.slice x2.1 k0 x2.2,.slice x2.1 k0 x2.2,.int .i64 k2,.int .i64 (k13:Int)]:List Value);let k14:=dc y3.2.1.2.2.1 y3.2.1.2.2.2;let k10:=([some ⟨g2,0,k1,.own 27⟩,some ⟨g1,0,k14,.own 27⟩,some ⟨g0,0,(jc v s),.own 24⟩]:List (Option Blk));let k12:=(.int .i64 (IntKind.i64.wrap ((y3.1:Int)+1)):Value);let k15 := !decide ((k8.2)=0);let k16:=(segs t).getD k13 0;let k17:=Un S y3.2.1.2.1;let k18:=(.tuple #[.agg k14,.int .i64 0]:Value);let k19:=decide ((y3.1:Int) < k2);let k20:=decide ((k13:Int) < k2);(y3.1≤(segs t).length∧rightB y3.2.1.2.2.2=true∧dropA s.g s.u lsn (segs t) t=dropA s.g s.u lsn ((segs t).drop y3.1) y3.2.1.2.2.2)→∀ τ5:Nat→Value,(k19=true→Yields0 Tryz.prog w k7 (Instr.indexAt 47 (.slice x2.1 k0 x2.2) (.int .i64 (y3.1:Int))) (.pointer (some ⟨blkA x2.1,offA x2.1+y3.1 * 1,none⟩))∧Reads0 w k7 (blkA x2.1) (offA x2.1+y3.1 * 1) #[.int .i64 k11]∧(k12 = .int .i64 (k13:Int)∧(k20=true→k12 = .int .i64 (k13:Int)∧Yields0 Tryz.prog w k7 (Instr.indexAt 47 (.slice x2.1 k0 x2.2) (.int .i64 (k13:Int))) (.pointer (some ⟨blkA x2.1,offA x2.1+k13 * 1,none⟩))∧Reads0 w k7 (blkA x2.1) (offA x2.1+k13 * 1) #[.int .i64 k16]∧(.int .i64 (IntKind.i64.wrap (k16 - 1)):Value) = .int .i64 (k16 - 1)∧∃ x' : Int,(lastOf s.u (segs t) y3.1=x')∧(([.int .i64 lsn,.pointer k4,.pointer k5,.pointer k6,.slice x2.1 k0 x2.2,.int .i64 k11,.int .i64 (k16 - 1),.slice x2.1 k0 x2.2,.int .i64 k2,.int .i64 (y3.1:Int)]:List Value)=[.int .i64 lsn,.pointer k4,.pointer k5,.pointer k6,.slice x2.1 k0 x2.2,.int .i64 k11,.int .i64 x',.slice x2.1 k0 x2.2,.int .i64 k2,.int .i64 (y3.1:Int)]∧k10=[some ⟨g2,0,k1,.own 27⟩,some ⟨g1,0,k14,.own 27⟩,some ⟨g0,0,(jc v s),.own 24⟩]∧Turns w k7 k7)∧true=true)∧(k20=false→∃ x' : Int,(lastOf s.u (segs t) y3.1=x')∧(([.int .i64 lsn,.pointer k4,.pointer k5,.pointer k6,.slice x2.1 k0 x2.2,.int .i64 k11,.int .i64 s.u,.slice x2.1 k0 x2.2,.int .i64 k2,.int .i64 (y3.1:Int)]:List Value)=[.int .i64 lsn,.pointer k4,.pointer k5,.pointer k6,.slice x2.1 k0 x2.2,.int .i64 k11,.int .i64 x',.slice x2.1 k0 x2.2,.int .i64 k2,.int .i64 (y3.1:Int)]∧k10=[some ⟨g2,0,k1,.own 27⟩,some ⟨g1,0,k14,.own 27⟩,some ⟨g0,0,(jc v s),.own 24⟩]∧Turns w k7 k7)∧true=true))∧∀ (y7:Int),(lastOf s.u (segs t) y3.1=y7)→∀ τ10:Nat→Value,((decide (y7 > lsn))=true→∃ x:Dv,k18 = .tuple #[.agg (dc x k3.1),.int .i64 k3.2]∧Concl w k7 (fun w'=>InD w' (Nw S w w') x k3.1))∧((decide (y7 > lsn))=false→((decide (k11=s.g))=true→k12 = .int .i64 (k13:Int)∧∃ x' : Nat × Dat RD S w,(x'.1≤(segs t).length∧rightB x'.2.1.2.2.2=true∧dropA s.g s.u lsn (segs t) t=dropA s.g s.u lsn ((segs t).drop x'.1) x'.2.1.2.2.2)∧((segs t).length - x'.1 < (segs t).length - y3.1)∧(k9=[.int .i64 lsn,.pointer k4,.pointer k5,.pointer k6,.slice x2.1 k0 x2.2,.slice x2.1 k0 x2.2,.int .i64 k2,.int .i64 (x'.1:Int)]∧k10=[some ⟨g2,0,k1,.own 27⟩,some ⟨g1,0,#[.slice x'.2.1.2.2.1.A x'.2.1.2.2.2.files.length x'.2.1.2.2.1.c,.int .i64 x'.2.1.2.2.2.room,.int .i64 x'.2.1.2.2.2.fuse,.bool x'.2.1.2.2.2.down],.own 27⟩,some ⟨g0,0,(jc v s),.own 24⟩]∧Turns w k7 [poolF x'.2.1.1 x'.2.1.2.1,ownF (rdInt .i64) 1 2 x2.1 k0 x2.2 (segs t)])∧true=true)∧((decide (k11=s.g))=false→(Gives Tryz.prog w k7 24 #[.int .i64 k11] (.string (nameV k11))∧GivesM Tryz.prog w k7 42 #[.agg k14,.string (nameV k11)] (Dat (fun w S v=>InD w S v (k8.1)) k17 y3.2.1.1) (fun x=>.tuple #[.agg (dc x.1.2.2 (k8.1)),.int .i64 (k8.2)]) (fun x=>[poolF x.1.1 x.1.2.1])∧∀ x13:Dat (fun w S v=>InD w S v (k8.1)) k17 y3.2.1.1,let k21:List Fact:=[poolF x13.1.1 x13.1.2.1,poolF y3.2.1.1 y3.2.1.2.1,ownF (rdInt .i64) 1 2 x2.1 k0 x2.2 (segs t)];(k15=true→∃ x:Dv,(.tuple #[.agg (dc x13.1.2.2 (k8.1)),.int .i64 (k8.2)]:Value) = .tuple #[.agg (dc x k3.1),.int .i64 k3.2]∧Concl w k21 (fun w'=>InD w' (Nw S w w') x k3.1))∧(k15=false→k12 = .int .i64 (k13:Int)∧∃ x' : Nat × Dat RD S w,(x'.1≤(segs t).length∧rightB x'.2.1.2.2.2=true∧dropA s.g s.u lsn (segs t) t=dropA s.g s.u lsn ((segs t).drop x'.1) x'.2.1.2.2.2)∧((segs t).length - x'.1 < (segs t).length - y3.1)∧(k9=[.int .i64 lsn,.pointer k4,.pointer k5,.pointer k6,.slice x2.1 k0 x2.2,.slice x2.1 k0 x2.2,.int .i64 k2,.int .i64 (x'.1:Int)]∧([some ⟨g2,0,k1,.own 27⟩,some ⟨g1,0,(dc x13.1.2.2 (k8.1)),.own 27⟩,some ⟨g0,0,(jc v s),.own 24⟩]:List (Option Blk))=[some ⟨g2,0,k1,.own 27⟩,some ⟨g1,0,#[.slice x'.2.1.2.2.1.A x'.2.1.2.2.2.files.length x'.2.1.2.2.1.c,.int .i64 x'.2.1.2.2.2.room,.int .i64 x'.2.1.2.2.2.fuse,.bool x'.2.1.2.2.2.down],.own 27⟩,some ⟨g0,0,(jc v s),.own 24⟩]∧Turns w k21 [poolF x'.2.1.1 x'.2.1.2.1,ownF (rdInt .i64) 1 2 x2.1 k0 x2.2 (segs t)])∧true=true))∧(Gives Tryz.prog w k7 24 #[.int .i64 k11] (.string (nameV k11))∧GivesM Tryz.prog w k7 42 #[.agg k14,.string (nameV k11)] (Dat (fun w S v=>InD w S v (k8.1)) k17 y3.2.1.1) (fun x=>.tuple #[.agg (dc x.1.2.2 (k8.1)),.int .i64 (k8.2)]) (fun x=>[poolF x.1.1 x.1.2.1])∧∀ x15:Dat (fun w S v=>InD w S v (k8.1)) k17 y3.2.1.1,let k22:List Fact:=[poolF x15.1.1 x15.1.2.1,poolF y3.2.1.1 y3.2.1.2.1,ownF (rdInt .i64) 1 2 x2.1 k0 x2.2 (segs t)];(k15=true→∃ x:Dv,(.tuple #[.agg (dc x15.1.2.2 (k8.1)),.int .i64 (k8.2)]:Value) = .tuple #[.agg (dc x k3.1),.int .i64 k3.2]∧Concl w k22 (fun w'=>InD w' (Nw S w w') x k3.1))∧(k15=false→k12 = .int .i64 (k13:Int)∧∃ x' : Nat × Dat RD S w,(x'.1≤(segs t).length∧rightB x'.2.1.2.2.2=true∧dropA s.g s.u lsn (segs t) t=dropA s.g s.u lsn ((segs t).drop x'.1) x'.2.1.2.2.2)∧((segs t).length - x'.1 < (segs t).length - y3.1)∧(k9=[.int .i64 lsn,.pointer k4,.pointer k5,.pointer k6,.slice x2.1 k0 x2.2,.slice x2.1 k0 x2.2,.int .i64 k2,.int .i64 (x'.1:Int)]∧([some ⟨g2,0,k1,.own 27⟩,some ⟨g1,0,(dc x15.1.2.2 (k8.1)),.own 27⟩,some ⟨g0,0,(jc v s),.own 24⟩]:List (Option Blk))=[some ⟨g2,0,k1,.own 27⟩,some ⟨g1,0,#[.slice x'.2.1.2.2.1.A x'.2.1.2.2.2.files.length x'.2.1.2.2.1.c,.int .i64 x'.2.1.2.2.2.room,.int .i64 x'.2.1.2.2.2.fuse,.bool x'.2.1.2.2.2.down],.own 27⟩,some ⟨g0,0,(jc v s),.own 24⟩]∧Turns w k22 [poolF x'.2.1.1 x'.2.1.2.1,ownF (rdInt .i64) 1 2 x2.1 k0 x2.2 (segs t)])∧true=true)))))∧(k19=false→∃ x:Dv,k18 = .tuple #[.agg (dc x k3.1),.int .i64 k3.2]∧Concl w k7 (fun w'=>InD w' (Nw S w w') x k3.1)))∧((fitsL s t)=false→∃ x:Dv,(.tuple #[.agg (dc u t),.int .i64 1]:Value) = .tuple #[.agg (dc x k3.1),.int .i64 k3.2]∧Concl w [] (fun w'=>InD w' (Nw S w w') x k3.1))) Tryz.func19 (by kernel_rfl)
 (fun g0=>fun g1=>fun g2=>⟨(fun w1 hw _=>v_fits v s u t w1 (h.later hw) (hd.later hw) hs (var_later ht hw) (ev_later he hw)),fun h1=>⟨(g_segs hd hs ht he),fun x2=>⟨(fun _ _ _=>news_pool0),⟨Nat.zero_le _,rightB_of_fits h1,rfl⟩,⟨rfl,rfl,(turns_sub (.cons_cons _ (.cons_cons _ (List.nil_sublist _))))⟩,rfl,fun y3 I4 τ5=>⟨fun h6=>have h6:(y3.1:Int) < ((segs t).length:Int):=(by simpa using h6)
⟨(own_index Tryz.underlying47 info_i64 (row_at (j:=1) rfl) (by omega)),(own_reads (keeps_int _) (by decide) int_cells (row_at (j:=1) rfl) (at_getD (by omega))),⟨⟨wrap_is (by omega) (by omega) (by omega),⟨fun h9=>have h9:((y3.1+1:Nat):Int) < ((segs t).length:Int):=(by simpa using h9)
⟨wrap_is (by omega) (by omega) (by omega),⟨(own_index Tryz.underlying47 info_i64 (row_at (j:=1) rfl) (by omega)),(own_reads (keeps_int _) (by decide) int_cells (row_at (j:=1) rfl) (at_getD (by omega))),⟨wrap_is rfl (by have:=seg_rng (segs_rng t) (k:=y3.1+1) (by omega);omega) (by have:=seg_rng (segs_rng t) (k:=y3.1+1) (by omega);omega),⟨(((((segs t).getD (y3.1+1:Nat) 0) - 1)):Int),(last_mid (by omega)),⟨rfl,rfl,(turns_sub (.cons_cons _ (.cons_cons _ (List.nil_sublist _))))⟩,rfl⟩⟩⟩⟩,
 fun h9=>have h9:¬ ((y3.1+1:Nat):Int) < ((segs t).length:Int):=(by simpa using h9)
⟨((s.u):Int),(last_end (by omega)),⟨rfl,rfl,(turns_sub (.cons_cons _ (.cons_cons _ (List.nil_sublist _))))⟩,rfl⟩⟩⟩,
 fun y7 I8 τ10=>⟨fun h11=>have h11:lsn < y7:=(by simpa using h11)
(q_d (dr_stop h1 I4 (by omega) I8 h11) (fun w1 hb ha hy=>(dat_new keeps_dl (fixed_low hS) y3.2 (i:=0) rfl hb ha hy new_base))),
 fun h11=>have h11:¬ lsn < y7:=(by simpa using h11)
⟨fun h12=>have h12:((segs t).getD y3.1 0)=s.g:=(by simpa using h12)
⟨wrap_is (by omega) (by omega) (by omega),⟨((y3.1+1,y3.2):Nat × Dat RD S w),(drop_skip I4 (by omega) I8 h11 h12),(by dsimp only;omega),⟨rfl,rfl,(turns_sub (List.Sublist.refl _))⟩,rfl⟩⟩,
 fun h12=>have h12:¬ ((segs t).getD y3.1 0)=s.g:=(by simpa using h12)
⟨⟨(n_name (seg_in (segs_rng t) (by omega)) ht),⟨(g_remove (fixed_next (fixed_low hS) y3.2 (i:=0) rfl) (fun w1 hw ha=>((dat_in keeps_dl (fixed_low hS) y3.2 (i:=0) rfl w1 hw ha))) (right_short I4.2.1) (nameV_100 _)),fun x13=>⟨fun h14=>have h14:¬ ((removeD y3.2.1.2.2.2 (nameV ((segs t).getD y3.1 0))).2)=0:=(by simpa using h14)
(q_d (dr_err h1 I4 (by omega) I8 h11 h12 h14) (fun w1 hb ha hy=>(dat_new (keeps_d ((removeD y3.2.1.2.2.2 (nameV ((segs t).getD y3.1 0))).1)) (fixed_next (fixed_low hS) y3.2 (i:=1) rfl) x13 (i:=0) rfl hb ha hy (new_un (i:=1) rfl hy new_base)))),
 fun h14=>have h14:((removeD y3.2.1.2.2.2 (nameV ((segs t).getD y3.1 0))).2)=0:=(by simpa using h14)
⟨wrap_is (by omega) (by omega) (by omega),⟨((y3.1+1,nextD y3.2 x13):Nat × Dat RD S w),(drop_step I4 (by omega) I8 h11 h12 h14),(by dsimp only;omega),⟨rfl,rfl,(turns_glue2 keeps_dl y3.2 (keeps_d _) x13)⟩,rfl⟩⟩⟩⟩⟩,
⟨(n_name (seg_in (segs_rng t) (by omega)) ht),⟨(g_remove (fixed_next (fixed_low hS) y3.2 (i:=0) rfl) (fun w1 hw ha=>((dat_in keeps_dl (fixed_low hS) y3.2 (i:=0) rfl w1 hw ha))) (right_short I4.2.1) (nameV_100 _)),fun x15=>⟨fun h16=>have h16:¬ ((removeD y3.2.1.2.2.2 (nameV ((segs t).getD y3.1 0))).2)=0:=(by simpa using h16)
(q_d (dr_err h1 I4 (by omega) I8 h11 h12 h16) (fun w1 hb ha hy=>(dat_new (keeps_d ((removeD y3.2.1.2.2.2 (nameV ((segs t).getD y3.1 0))).1)) (fixed_next (fixed_low hS) y3.2 (i:=1) rfl) x15 (i:=0) rfl hb ha hy (new_un (i:=1) rfl hy new_base)))),
 fun h16=>have h16:((removeD y3.2.1.2.2.2 (nameV ((segs t).getD y3.1 0))).2)=0:=(by simpa using h16)
⟨wrap_is (by omega) (by omega) (by omega),⟨((y3.1+1,nextD y3.2 x15):Nat × Dat RD S w),(drop_step I4 (by omega) I8 h11 h12 h16),(by dsimp only;omega),⟨rfl,rfl,(turns_glue2 keeps_dl y3.2 (keeps_d _) x15)⟩,rfl⟩⟩⟩⟩⟩⟩⟩⟩⟩⟩,
 fun h6=>have h6:¬ (y3.1:Int) < ((segs t).length:Int):=(by simpa using h6)
(q_d (dr_end h1 I4 (by omega)) (fun w1 hb ha hy=>(dat_new keeps_dl (fixed_low hS) y3.2 (i:=0) rfl hb ha hy new_base)))⟩⟩⟩,
 fun h1=>(q_d (dr_no h1) (fun w1 hb ha hy=>(hd0.keep (low_alike hS hb) (fun _ h=>.inl h))))⟩)
end Go.Proofs.YtalhdalinpdanaaGreatDoor.wal
