/-
  WalI6, WalI7, WalG, WalR1, WalR3, WalR4, WalR5, WalR6, WalR7, WalR8
-/
import Derived.Test.YtalhdalinpdanaaGreatDoorMwl35
import Derived.Test.YtalhdalinpdanaaGreatDoorMwl34
import Derived.Test.YtalhdalinpdanaaGreatDoorMwl26
import Derived.Test.YtalhdalinpdanaaGreatDoorMwl27
import Derived.Test.YtalhdalinpdanaaGreatDoorMwl38
import Derived.Test.YtalhdalinpdanaaGreatDoorMwl39
import Derived.Test.YtalhdalinpdanaaGreatDoorMwl33
set_option linter.unusedVariables false
set_option linter.unusedSimpArgs false
section
namespace Go.Proofs.YtalhdalinpdanaaGreatDoor.wal
open Go.RowKit Go.Proofs.YtalhdalinpdanaaGreatDoor Go.Proofs.YtalhdalinpdanaaGreatDoor.frame Go.Proofs.YtalhdalinpdanaaGreatDoor.disk
set_option maxRecDepth 20000
abbrev RL:World→(Nat→Prop)→(Jv × Wl) × (Dv × DiskD)→Prop:=fun w S b=>InJ w S b.1.1 b.1.2∧InD w S b.2.1 b.2.2
theorem keeps_l:Keeps3 RL:=fun w w' S S' b h ha hs=>⟨h.1.keep ha.alike hs,h.2.keep ha.alike hs⟩
abbrev RW (r:Wl × DiskD × Int):World→(Nat→Prop)→Jv × Dv→Prop:=fun w S b=>InJ w S b.1 r.1∧InD w S b.2 r.2.1
theorem keeps_w (r:Wl × DiskD × Int):Keeps3 (RW r):=fun w w' S S' b h ha hs=>⟨h.1.keep ha.alike hs,h.2.keep ha.alike hs⟩
section
variable {S:Nat→Prop} {W:World}
abbrev nextL (y:Dat RL S W) (r:Wl × DiskD × Int) (z:Dat (RW r) (Un S y.1.2.1) y.1.1):Dat RL S W:=turn (glue keeps_l y (keeps_w r) z) (fun b=>((b.2.1,r.1),(b.2.2,r.2.1))) (fun _ _ _ h=>h.2)
theorem turns_glue2 {β γ:Type} {R:World→(Nat→Prop)→β→Prop} {R' : World→(Nat→Prop)→γ→Prop} {w0:World} (hK:Keeps3 R) (x:Dat R S W) (hK' : Keeps3 R') (z:Dat R' (Un S x.1.2.1) x.1.1) {E:List Fact} : Turns w0 (poolF z.1.1 z.1.2.1 :: poolF x.1.1 x.1.2.1 :: E) (poolF (glue hK x hK' z).1.1 (glue hK x hK' z).1.2.1 :: E):=fun h1 h2=>by
 obtain ⟨a1,a2⟩:=List.pairwise_cons.1 h2
 obtain ⟨b1,b2⟩:=List.pairwise_cons.1 a2
 refine ⟨fun f hf=>?_,List.pairwise_cons.2 ⟨fun g hg k hk hk2=>?_,b2⟩,fun f hf k hk=>?_,fun w' hw ha=>⟨fun k hk=>?_,ha.2.2⟩⟩
 ·rcases List.mem_cons.1 hf with rfl | hf
  ·exact poolF_stable _ _
  ·exact h1 f (List.mem_cons_of_mem _ (List.mem_cons_of_mem _ hf))
 ·rcases hk with hk | hk
  ·exact b1 g hg k hk hk2
  ·exact a1 g (List.mem_cons_of_mem _ hg) k hk hk2
 ·rcases List.mem_cons.1 hf with rfl | hf
  ·rcases hk with hk | hk
   ·exact ⟨poolF x.1.1 x.1.2.1,by simp,hk⟩
   ·exact ⟨poolF z.1.1 z.1.2.1,by simp,hk⟩
  ·exact ⟨f,List.mem_cons_of_mem _ (List.mem_cons_of_mem _ hf),hk⟩
 ·rcases hk with hk | hk
  ·exact (ha.2.1 k hk).trans (z.2.2.1 k (.inr hk)).symm
  ·exact ha.1 k hk
end
def commitA:Nat→Wl→DiskD→Wl × DiskD × Int
 | 0,s,t=>(s,t,0)
 |k+1,s,t=>if s.ws=[] then (s,t,0) else if (writeW s t).2.2=0 then commitA k (writeW s t).1 (writeW s t).2.1 else writeW s t
def commitL (s:Wl) (t:DiskD):Wl × DiskD × Int:=if fitsL s t=true then commitA 33 s t else (s,t,1)
theorem row_drop:∀ (l:List FrameD) (n e:Int) (k:Nat),(∀ f ∈ l,f.e=e)→k≤l.length→scan.row l n e=true→scan.row (l.drop k) (n+k) e=true
 |l,n,e,0,_,_,h=>by simpa using h
 | [],n,e,k+1,_,hk,_=>by simp at hk
 |f :: l,n,e,k+1,ha,hk,h=>by
  obtain ⟨h1,h2,h3,h4⟩:=(scan.row_cons _ _ _ _).1 h
  rw [ha f (by simp)] at h4
  have:=row_drop l (n+1) e k (fun g hg=>ha g (by simp [hg])) (by simpa using hk) h4
  rw [show n+((k+1:Nat):Int)=n+1+(k:Int) by omega]
  exact this
theorem step_right {s:Wl} (hr:right s=true) (hne:s.ws≠[]):right (stepW s)=true∧(stepW s).ws.length < s.ws.length:=by
 have hst:StepIs s (begun s).g (begun s).c:=⟨rfl,rfl⟩
 have h1:=step_rng hr hst;have h2:=right_facts hr;have h3:=room_8 hr hst;have h4:=room_le s;have h5:=ws_pos hne;have h6:=room_eq hr hst
 have e1:(stepW s).e=s.e∧(stepW s).n=s.n∧(stepW s).u=s.u+(room s:Int)∧(stepW s).g=(begun s).g∧(stepW s).c=(begun s).c+(room s:Int)∧(stepW s).ws=s.ws.drop (room s):=by
  unfold stepW begun
  split<;>exact ⟨rfl,rfl,rfl,rfl,rfl,rfl⟩
 obtain ⟨e1,e2,e3,e4,e5,e6⟩:=e1
 have hg:(begun s).g=s.u+1 - (begun s).c:=by
  unfold begun
  split
  ·simp
  ·rename_i hq;omega
 rw [right_split] at hr
 unfold waitsL at hr
 simp only [Bool.and_eq_true,decide_eq_true_eq,Bool.not_eq_true'] at hr
 obtain ⟨⟨_,⟨_,hrow⟩,hany⟩,_⟩:=hr
 have hall:∀ f ∈ s.ws,f.e=s.e:=fun f hf=>by
  have:=(List.any_eq_false.1 hany) f hf
  simpa using this
 have hlen:(s.ws.drop (room s)).length=s.ws.length - room s:=List.length_drop
 refine ⟨right_yes (by rw [e1,e2,e3];omega) (waits_yes (by rw [e2,e3,e6,hlen];omega) ?_ ?_) ?_,by rw [e6,hlen];omega⟩
 ·rw [e6,e3,e1,show s.u+(room s:Int)+1=s.u+1+(room s:Int) by omega]
  exact row_drop _ _ _ _ hall h4 hrow
 ·rw [e6,e1,List.any_eq_false]
  intro f hf
  simp [hall f (List.mem_of_mem_drop hf)]
 ·unfold segB
  rw [e3,e4,e5]
  exact decide_eq_true (by omega)
theorem write_zero {s:Wl} {t:DiskD} (h:(writeW s t).2.2=0):writeW s t=(stepW s,(syncD (appendD t (nameOf (stepW s).g) (scan.put (s.ws.take (room s)))).1 (nameOf (stepW s).g)).1,0):=by
 unfold writeW at h ⊢
 simp only at h ⊢
 split at h<;>rename_i h1
 ·split at h<;>rename_i h2
  ·rw [if_pos h1,if_pos h2]
  ·exact absurd h h2
 ·exact absurd h h1
theorem write_disk {s:Wl} {t:DiskD} (h:rightB t=true):rightB (writeW s t).2.1=true:=by
 unfold writeW
 simp only
 split
 ·split
  ·exact right_sync (right_append h)
  ·exact right_sync (right_append h)
 ·exact right_append h
section
variable {s a:Wl} {t b d:DiskD} {lsn L:Int} {i:Nat}
theorem fits_parts (h:fitsL s t=true):right s=true∧rightB t=true∧(segs t).any (fun x:Int=>decide (s.u < x))=false∧(s.g=0∨((heldV t s.g).length:Int)=s.c * 72):=by
 unfold fitsL at h
 simp only [Bool.and_eq_true,Bool.or_eq_true,decide_eq_true_eq,Bool.not_eq_true'] at h
 exact ⟨h.1.1,h.1.2,h.2.1,h.2.2⟩
theorem right_of_fits (h:fitsL s t=true):right s=true:=(fits_parts h).1
theorem rightB_of_fits (h:fitsL s t=true):rightB t=true:=(fits_parts h).2.1
theorem ws_ne (h:(0:Int) < (a.ws.length:Int)):a.ws≠[]:=fun e=>by rw [e] at h;simp at h
theorem commit_start (hr:right s=true) (hd:rightB t=true):right s=true∧rightB t=true∧∃ k:Nat,s.ws.length≤k∧commitA 33 s t=commitA k s t:=⟨hr,hd,33,by have:=right_facts hr;omega,rfl⟩
theorem commit_less (h:right a=true∧rightB b=true∧∃ k:Nat,a.ws.length≤k∧commitA 33 s t=commitA k a b) (hne:a.ws≠[]) (he:(writeW a b).2.2=0):(writeW a b).1.ws.length < a.ws.length:=by
 rw [write_zero he];exact (step_right h.1 hne).2
theorem commit_step (h:right a=true∧rightB b=true∧∃ k:Nat,a.ws.length≤k∧commitA 33 s t=commitA k a b) (hne:a.ws≠[]) (he:(writeW a b).2.2=0):right (writeW a b).1=true∧rightB (writeW a b).2.1=true∧∃ k:Nat,(writeW a b).1.ws.length≤k∧commitA 33 s t=commitA k (writeW a b).1 (writeW a b).2.1:=by
 have hl:=commit_less h hne he
 obtain ⟨h1,h2,k,h3,h4⟩:=h
 have hp:=ws_pos hne
 refine ⟨by rw [write_zero he];exact (step_right h1 hne).1,write_disk h2,k - 1,by omega,?_⟩
 rw [h4]
 obtain ⟨k,rfl⟩:∃ j,k=j+1:=⟨k - 1,by omega⟩
 rw [commitA,if_neg hne,if_pos he]
 rfl
theorem c_no (h:fitsL s t=false):commitL s t=(s,t,1):=by unfold commitL;rw [if_neg (by rw [h];simp)]
theorem c_err (hf:fitsL s t=true) (h:right a=true∧rightB b=true∧∃ k:Nat,a.ws.length≤k∧commitA 33 s t=commitA k a b) (hne:a.ws≠[]) (he:¬ (writeW a b).2.2=0):commitL s t=((writeW a b).1,(writeW a b).2.1,(writeW a b).2.2):=by
 obtain ⟨h1,h2,k,h3,h4⟩:=h
 have hp:=ws_pos hne
 unfold commitL
 rw [if_pos hf,h4]
 obtain ⟨k,rfl⟩:∃ j,k=j+1:=⟨k - 1,by omega⟩
 rw [commitA,if_neg hne,if_neg he]
theorem c_end (hf:fitsL s t=true) (h:right a=true∧rightB b=true∧∃ k:Nat,a.ws.length≤k∧commitA 33 s t=commitA k a b) (hne:a.ws.length=0):commitL s t=(a,b,0):=by
 obtain ⟨h1,h2,k,h3,h4⟩:=h
 unfold commitL
 rw [if_pos hf,h4]
 cases k with
 |zero=>rfl
 |succ k=>rw [commitA,if_pos (List.eq_nil_of_length_eq_zero hne)]
theorem segs_rng (t:DiskD):∀ n ∈ segs t,1≤n∧n≤1000000000:=fun n hn=>by
 unfold segs at hn
 split at hn
 ·obtain ⟨h1,h2⟩:=List.mem_filter.1 hn
  obtain ⟨f,_,rfl⟩:=List.mem_map.1 h1
  have:=numOf_le f.name
  simp at h2
  omega
 ·cases hn
theorem seg_rng {l:List Int} {k:Nat} (h:∀ n ∈ l,1≤n∧n≤1000000000) (hk:k < l.length):1≤l.getD k 0∧l.getD k 0≤1000000000:=by
 rw [List.getD_eq_getElem?_getD,List.getElem?_eq_getElem hk]
 exact h _ (List.getElem_mem hk)
theorem seg_in {l:List Int} {k:Nat} (h:∀ n ∈ l,1≤n∧n≤1000000000) (hk:k < l.length):inI (l.getD k 0):=by
 have:=seg_rng h hk;unfold inI;omega
end
section
variable {w0 W:World} {D:List Fact} {S:Nat→Prop} {v:Jv} {s:Wl} {u:Dv} {t:DiskD}
theorem g_written (hF : Fixed w0 D S W) (hj : ∀ w, Below w0.heap.size w0 w → All D w → InJ w S v s) (hd : ∀ w, Below w0.heap.size w0 w → All D w → InD w S u t) (hr : right s = true) (hdr : rightB t = true) (hne : s.ws ≠ []) (ht : Lib.TabIs Tryz.prog w0 "internal/strconv.uint64pow10" .u64 Lib.pow10Tab) :
  GivesM Tryz.prog w0 D 37 #[.agg (jc v s),.agg (dc u t)] (Dat (RW (writeW s t)) S W) (fun x=>.tuple #[.agg (jc x.1.2.2.1 (writeW s t).1),.agg (dc x.1.2.2.2 (writeW s t).2.1),.int .i64 (writeW s t).2.2]) (fun x=>[poolF x.1.1 x.1.2.1]) :=
 gives_dat (R:=RW (writeW s t)) (r:=fun b=>.tuple #[.agg (jc b.1 (writeW s t).1),.agg (dc b.2 (writeW s t).2.1),.int .i64 (writeW s t).2.2]) hF (fun w hw ha=>v_written v s u t S w (hj w hw ha) (hd w hw ha) (hF w hw ha).2 hr hdr hne (var_later ht hw))
theorem q_d {u' : Dv} {d' : DiskD} {e:Int} {r:DiskD × Int} (hr:r=(d',e)) (hd:∀ w',Below w0.heap.size w0 w'→All D w'→(∀ f ∈ D,∀ k,f.S k→w0.heap.size≤k∧k < w'.heap.size)→InD w' (Nw S w0 w') u' d') :
  ∃ x:Dv,(.tuple #[.agg (dc u' d'),.int .i64 e]:Value) = .tuple #[.agg (dc x r.1),.int .i64 r.2]∧Concl w0 D (fun w'=>InD w' (Nw S w0 w') x r.1):=by
 subst hr
 exact ⟨u',rfl,fun w' hb ha hy=>hd w' hb ha hy⟩
end
theorem v_commit (v : Jv) (s : Wl) (u : Dv) (t : DiskD) (S : Nat → Prop)  (w : World) (h0 : InJ w S v s) (hd0 : InD w S u t) (hS : ∀ k, S k → k < w.heap.size) (hs : shortB t.files = true) (ht : Lib.TabIs Tryz.prog w "internal/strconv.uint64pow10" .u64 Lib.pow10Tab) (he : ErrVar w) : Calls Tryz.prog 16 #[.agg (jc v s), .agg (dc u t)] w fun e w' => ∃ x : Jv × Dv, e = .returned (.tuple #[.agg (jc x.1 (commitL s t).1), .agg (dc x.2 (commitL s t).2.1), .int .i64 (commitL s t).2.2]) ∧ Below w.heap.size w w' ∧ (fun w' => InJ w' (Nw S w w') x.1 (commitL s t).1 ∧ InD w' (Nw S w w') x.2 (commitL s t).2.1) w' :=
 have h:=h0.all hS
 have hd:=hd0.all hS
 calls_q (fn:=Tryz.f16) (r:=fun (x:Jv × Dv)=>.tuple #[.agg (jc x.1 (commitL s t).1),.agg (dc x.2 (commitL s t).2.1),.int .i64 (commitL s t).2.2]) (Q:=fun (x:Jv × Dv)=>fun w'=>InJ w' (Nw S w w') x.1 (commitL s t).1∧InD w' (Nw S w w') x.2 (commitL s t).2.1) (t:=.cs (fitsL s t) (.l (Dat RL S w) (fun x=>[(2,undef,some (0,0)),(3,undef,some (1,0)),(4,undef,some (2,0)),(5,undef,some (3,0))]) (fun x=>[(0,#[.int .i64 x.1.2.2.1.2.e,.int .i64 x.1.2.2.1.2.n,.int .i64 x.1.2.2.1.2.u,.int .i64 x.1.2.2.1.2.g,.int .i64 x.1.2.2.1.2.c,.slice x.1.2.2.1.1.A x.1.2.2.1.2.ws.length x.1.2.2.1.1.c]),(1,#[.slice x.1.2.2.2.1.A x.1.2.2.2.2.files.length x.1.2.2.2.1.c,.int .i64 x.1.2.2.2.2.room,.int .i64 x.1.2.2.2.2.fuse,.bool x.1.2.2.2.2.down])]) [0,1,2,3] [poolF w (fun _=>False)] (fun x=>[poolF x.1.1 x.1.2.1]) (fun x=>right x.1.2.2.1.2=true∧rightB x.1.2.2.2.2=true∧∃ k:Nat,x.1.2.2.1.2.ws.length≤k∧commitA 33 s t=commitA k x.1.2.2.1.2 x.1.2.2.2.2) (fun x=>x.1.2.2.1.2.ws.length) (given_ (R:=RL) (b:=((v,s),(u,t))) ⟨h0,hd0⟩ keeps_l:Dat RL S w) (fun y2=>let k0:=writeW y2.1.2.2.1.2 y2.1.2.2.2.2; .s (.cm (Dat (RW k0) (Un S y2.1.2.1) y2.1.1) (fun x=>.tuple #[.agg (jc x.1.2.2.1 (k0.1)),.agg (dc x.1.2.2.2 (k0.2.1)),.int .i64 (k0.2.2)]) (fun x=>[poolF x.1.1 x.1.2.1]) (fun x6=>.s (.o [2,3] .z) .z)) (.o [2,3] .z))) (.o [2,3] .z)) (X :=
 let k0:Array Value:=#[.int .i64 0,.int .i64 0,.int .i64 0,.int .i64 0,.int .i64 0,.slice none 0 0];let k1:Array Value:=#[.slice none 0 0,.int .i64 0,.int .i64 0,.bool false]; ∀ g0:Nat,let k2:Option Addr:=some ⟨g0,0,none⟩;  ∀ g1:Nat,let k3:Option Addr:=some ⟨g1,0,none⟩;  ∀ g2:Nat,let k4:Option Addr:=some ⟨g2,0,none⟩;  ∀ g3:Nat,let k6:Option Addr:=some ⟨g3,0,none⟩;let k5:=([.pointer k2,.pointer k3,.pointer k4,.pointer k6]:List Value);Gives Tryz.prog w [] 36 #[.agg (jc v s),.agg (dc u t)] (.bool (fitsL s t))∧((fitsL s t)=true→Brings w [] [poolF w (fun _=>False)]∧(right (given_ (R:=RL) (b:=((v,s),(u,t))) ⟨h0,hd0⟩ keeps_l:Dat RL S w).1.2.2.1.2=true∧rightB (given_ (R:=RL) (b:=((v,s),(u,t))) ⟨h0,hd0⟩ keeps_l:Dat RL S w).1.2.2.2.2=true∧∃ k:Nat,(given_ (R:=RL) (b:=((v,s),(u,t))) ⟨h0,hd0⟩ keeps_l:Dat RL S w).1.2.2.1.2.ws.length≤k∧commitA 33 s t=commitA k (given_ (R:=RL) (b:=((v,s),(u,t))) ⟨h0,hd0⟩ keeps_l:Dat RL S w).1.2.2.1.2 (given_ (R:=RL) (b:=((v,s),(u,t))) ⟨h0,hd0⟩ keeps_l:Dat RL S w).1.2.2.2.2)∧(k5=[.pointer k2,.pointer k3,.pointer k4,.pointer k6]∧([some ⟨g3,0,k1,.own 27⟩,some ⟨g2,0,k0,.own 24⟩,some ⟨g1,0,(dc u t),.own 27⟩,some ⟨g0,0,(jc v s),.own 24⟩]:List (Option Blk))=[some ⟨g3,0,k1,.own 27⟩,some ⟨g2,0,k0,.own 24⟩,some ⟨g1,0,#[.slice ((given_ (R:=RL) (b:=((v,s),(u,t))) ⟨h0,hd0⟩ keeps_l:Dat RL S w).1.2.2.2.1.A) ((given_ (R:=RL) (b:=((v,s),(u,t))) ⟨h0,hd0⟩ keeps_l:Dat RL S w).1.2.2.2.2.files.length) ((given_ (R:=RL) (b:=((v,s),(u,t))) ⟨h0,hd0⟩ keeps_l:Dat RL S w).1.2.2.2.1.c),.int .i64 ((given_ (R:=RL) (b:=((v,s),(u,t))) ⟨h0,hd0⟩ keeps_l:Dat RL S w).1.2.2.2.2.room),.int .i64 ((given_ (R:=RL) (b:=((v,s),(u,t))) ⟨h0,hd0⟩ keeps_l:Dat RL S w).1.2.2.2.2.fuse),.bool ((given_ (R:=RL) (b:=((v,s),(u,t))) ⟨h0,hd0⟩ keeps_l:Dat RL S w).1.2.2.2.2.down)],.own 27⟩,some ⟨g0,0,#[.int .i64 ((given_ (R:=RL) (b:=((v,s),(u,t))) ⟨h0,hd0⟩ keeps_l:Dat RL S w).1.2.2.1.2.e),.int .i64 ((given_ (R:=RL) (b:=((v,s),(u,t))) ⟨h0,hd0⟩ keeps_l:Dat RL S w).1.2.2.1.2.n),.int .i64 ((given_ (R:=RL) (b:=((v,s),(u,t))) ⟨h0,hd0⟩ keeps_l:Dat RL S w).1.2.2.1.2.u),.int .i64 ((given_ (R:=RL) (b:=((v,s),(u,t))) ⟨h0,hd0⟩ keeps_l:Dat RL S w).1.2.2.1.2.g),.int .i64 ((given_ (R:=RL) (b:=((v,s),(u,t))) ⟨h0,hd0⟩ keeps_l:Dat RL S w).1.2.2.1.2.c),.slice ((given_ (R:=RL) (b:=((v,s),(u,t))) ⟨h0,hd0⟩ keeps_l:Dat RL S w).1.2.2.1.1.A) ((given_ (R:=RL) (b:=((v,s),(u,t))) ⟨h0,hd0⟩ keeps_l:Dat RL S w).1.2.2.1.2.ws.length) ((given_ (R:=RL) (b:=((v,s),(u,t))) ⟨h0,hd0⟩ keeps_l:Dat RL S w).1.2.2.1.1.c)],.own 24⟩]∧Turns w [poolF w (fun _=>False)] [poolF (given_ (R:=RL) (b:=((v,s),(u,t))) ⟨h0,hd0⟩ keeps_l:Dat RL S w).1.1 (given_ (R:=RL) (b:=((v,s),(u,t))) ⟨h0,hd0⟩ keeps_l:Dat RL S w).1.2.1])∧true=true∧∀ (y2:Dat RL S w),let k7:=writeW y2.1.2.2.1.2 y2.1.2.2.2.2;let k8:=decide ((y2.1.2.2.1.2.ws.length:Int) > 0);let k9:=jc y2.1.2.2.1.1 y2.1.2.2.1.2;let k10:=dc y2.1.2.2.2.1 y2.1.2.2.2.2;(right y2.1.2.2.1.2=true∧rightB y2.1.2.2.2.2=true∧∃ k:Nat,y2.1.2.2.1.2.ws.length≤k∧commitA 33 s t=commitA k y2.1.2.2.1.2 y2.1.2.2.2.2)→∀ τ4:Nat→Value,(k8=true→GivesM Tryz.prog w [poolF y2.1.1 y2.1.2.1] 37 #[.agg k9,.agg k10] (Dat (RW k7) (Un S y2.1.2.1) y2.1.1) (fun x=>.tuple #[.agg (jc x.1.2.2.1 (k7.1)),.agg (dc x.1.2.2.2 (k7.2.1)),.int .i64 (k7.2.2)]) (fun x=>[poolF x.1.1 x.1.2.1])∧∀ x6:Dat (RW k7) (Un S y2.1.2.1) y2.1.1,let k11:List Fact:=[poolF x6.1.1 x6.1.2.1,poolF y2.1.1 y2.1.2.1];((!decide ((k7.2.2)=0))=true→∃ x:Jv × Dv,(.tuple #[.agg (jc x6.1.2.2.1 (k7.1)),.agg (dc x6.1.2.2.2 (k7.2.1)),.int .i64 (k7.2.2)]:Value) = .tuple #[.agg (jc x.1 (commitL s t).1),.agg (dc x.2 (commitL s t).2.1),.int .i64 (commitL s t).2.2]∧Concl w k11 (fun w'=>InJ w' (Nw S w w') x.1 (commitL s t).1∧InD w' (Nw S w w') x.2 (commitL s t).2.1))∧((!decide ((k7.2.2)=0))=false→∃ x' : Dat RL S w,(right x'.1.2.2.1.2=true∧rightB x'.1.2.2.2.2=true∧∃ k:Nat,x'.1.2.2.1.2.ws.length≤k∧commitA 33 s t=commitA k x'.1.2.2.1.2 x'.1.2.2.2.2)∧(x'.1.2.2.1.2.ws.length < y2.1.2.2.1.2.ws.length)∧(k5=[.pointer k2,.pointer k3,.pointer k4,.pointer k6]∧([some ⟨g3,0,k1,.own 27⟩,some ⟨g2,0,k0,.own 24⟩,some ⟨g1,0,(dc x6.1.2.2.2 (k7.2.1)),.own 27⟩,some ⟨g0,0,(jc x6.1.2.2.1 (k7.1)),.own 24⟩]:List (Option Blk))=[some ⟨g3,0,k1,.own 27⟩,some ⟨g2,0,k0,.own 24⟩,some ⟨g1,0,#[.slice x'.1.2.2.2.1.A x'.1.2.2.2.2.files.length x'.1.2.2.2.1.c,.int .i64 x'.1.2.2.2.2.room,.int .i64 x'.1.2.2.2.2.fuse,.bool x'.1.2.2.2.2.down],.own 27⟩,some ⟨g0,0,#[.int .i64 x'.1.2.2.1.2.e,.int .i64 x'.1.2.2.1.2.n,.int .i64 x'.1.2.2.1.2.u,.int .i64 x'.1.2.2.1.2.g,.int .i64 x'.1.2.2.1.2.c,.slice x'.1.2.2.1.1.A x'.1.2.2.1.2.ws.length x'.1.2.2.1.1.c],.own 24⟩]∧Turns w k11 [poolF x'.1.1 x'.1.2.1])∧true=true))∧(k8=false→∃ x:Jv × Dv,(.tuple #[.agg k9,.agg k10,.int .i64 0]:Value) = .tuple #[.agg (jc x.1 (commitL s t).1),.agg (dc x.2 (commitL s t).2.1),.int .i64 (commitL s t).2.2]∧Concl w [poolF y2.1.1 y2.1.2.1] (fun w'=>InJ w' (Nw S w w') x.1 (commitL s t).1∧InD w' (Nw S w w') x.2 (commitL s t).2.1)))∧((fitsL s t)=false→∃ x:Jv × Dv,(.tuple #[.agg (jc v s),.agg (dc u t),.int .i64 1]:Value) = .tuple #[.agg (jc x.1 (commitL s t).1),.agg (dc x.2 (commitL s t).2.1),.int .i64 (commitL s t).2.2]∧Concl w [] (fun w'=>InJ w' (Nw S w w') x.1 (commitL s t).1∧InD w' (Nw S w w') x.2 (commitL s t).2.1))) Tryz.func16 (by kernel_rfl)
 (fun g0=>fun g1=>fun g2=>fun g3=>⟨(fun w1 hw _=>v_fits v s u t w1 (h.later hw) (hd.later hw) hs (var_later ht hw) (ev_later he hw)),fun h1=>⟨(fun _ _ _=>news_pool0),(commit_start (right_of_fits h1) (rightB_of_fits h1)),⟨rfl,rfl,(turns_sub (.cons_cons _ (List.nil_sublist _)))⟩,rfl,fun y2 I3 τ4=>⟨fun h5=>have h5:0 < (y2.1.2.2.1.2.ws.length:Int):=(by simpa using h5)
⟨(g_written (fixed_next (fixed_low hS) y2 (i:=0) rfl) (fun w1 hw ha=>((dat_in keeps_l (fixed_low hS) y2 (i:=0) rfl w1 hw ha).1)) (fun w1 hw ha=>((dat_in keeps_l (fixed_low hS) y2 (i:=0) rfl w1 hw ha).2)) I3.1 I3.2.1 (ws_ne h5) ht),fun x6=>⟨fun h7=>have h7:¬ ((writeW y2.1.2.2.1.2 y2.1.2.2.2.2).2.2)=0:=(by simpa using h7)
(q_jd (c_err h1 I3 (ws_ne h5) h7) (fun w1 hb ha hy=>(dat_new (keeps_w (writeW y2.1.2.2.1.2 y2.1.2.2.2.2)) (fixed_next (fixed_low hS) y2 (i:=1) rfl) x6 (i:=0) rfl hb ha hy (new_un (i:=1) rfl hy new_base)).1) (fun w1 hb ha hy=>(dat_new (keeps_w (writeW y2.1.2.2.1.2 y2.1.2.2.2.2)) (fixed_next (fixed_low hS) y2 (i:=1) rfl) x6 (i:=0) rfl hb ha hy (new_un (i:=1) rfl hy new_base)).2)),
 fun h7=>have h7:((writeW y2.1.2.2.1.2 y2.1.2.2.2.2).2.2)=0:=(by simpa using h7)
⟨(nextL y2 (writeW y2.1.2.2.1.2 y2.1.2.2.2.2) x6:Dat RL S w),(commit_step I3 (ws_ne h5) h7),(commit_less I3 (ws_ne h5) h7),⟨rfl,rfl,(turns_glue keeps_l y2 (keeps_w (writeW y2.1.2.2.1.2 y2.1.2.2.2.2)) x6)⟩,rfl⟩⟩⟩,
 fun h5=>have h5:¬ 0 < (y2.1.2.2.1.2.ws.length:Int):=(by simpa using h5)
(q_jd (c_end h1 I3 (by omega)) (fun w1 hb ha hy=>(dat_new keeps_l (fixed_low hS) y2 (i:=0) rfl hb ha hy new_base).1) (fun w1 hb ha hy=>(dat_new keeps_l (fixed_low hS) y2 (i:=0) rfl hb ha hy new_base).2))⟩⟩,
 fun h1=>(q_jd (c_no h1) (fun w1 hb ha hy=>(h0.keep (low_alike hS hb) (fun _ h=>.inl h))) (fun w1 hb ha hy=>(hd0.keep (low_alike hS hb) (fun _ h=>.inl h))))⟩)
end Go.Proofs.YtalhdalinpdanaaGreatDoor.wal
end
section
namespace Go.Proofs.YtalhdalinpdanaaGreatDoor.wal
open Go.RowKit Go.Proofs.YtalhdalinpdanaaGreatDoor Go.Proofs.YtalhdalinpdanaaGreatDoor.frame Go.Proofs.YtalhdalinpdanaaGreatDoor.disk
set_option maxRecDepth 20000
def newF (s:Wl) (k b0 b1 b2 b3 b4 b5:Int):FrameD:=⟨s.e,s.n,k,b0,b1,b2,b3,b4,b5⟩
section
variable {w0:World} {D:List Fact} {S:Nat→Prop} {v:Jv} {s:Wl} {k b0 b1 b2 b3 b4 b5:Int}
theorem newF_fine {w:World} (h:InJ w S v s) (hk:inI k) (hb:inI b0∧inI b1∧inI b2∧inI b3∧inI b4∧inI b5):(newF s k b0 b1 b2 b3 b4 b5).fine:=⟨h.e,h.n,hk,hb⟩
theorem put_arg (h:right s=false∨(k < 1∨6 < k)):putW s k b0 b1 b2 b3 b4 b5=(s,1):=by unfold putW;rw [if_pos h]
theorem put_over (hr:right s=true) (h:¬ (k < 1∨6 < k)∧1000000000 < s.n):putW s k b0 b1 b2 b3 b4 b5=(s,3):=by
 unfold putW;rw [if_neg (by rw [hr];simp;omega),if_pos h.2]
theorem put_full (hr:right s=true) (h:¬ (k < 1∨6 < k)∧¬ 1000000000 < s.n∧32≤s.ws.length):putW s k b0 b1 b2 b3 b4 b5=(s,6):=by
 unfold putW;rw [if_neg (by rw [hr];simp;omega),if_neg h.2.1,if_pos h.2.2]
theorem put_yes (hr:right s=true) (h:¬ (k < 1∨6 < k)∧¬ 1000000000 < s.n∧¬ 32≤s.ws.length):putW s k b0 b1 b2 b3 b4 b5=({ s with ws:=s.ws++[newF s k b0 b1 b2 b3 b4 b5],n:=s.n+1 },0):=by
 unfold putW;rw [if_neg (by rw [hr];simp;omega),if_neg h.2.1,if_neg h.2.2];rfl
theorem put_in {w' : World} {A:Option Addr} {c:Nat} {l:List FrameD} (h:InJ w0 S v s) (hf:1≤s.e∧s.e≤1000000∧1≤s.n∧s.n≤1000000001∧0≤s.u∧s.u < s.n∧s.ws.length≤32∧(s.ws.length:Int)=s.n - 1 - s.u∧((s.g=0∧s.c=0)∨(1≤s.g∧1≤s.c∧s.c≤8∧s.g=s.u+1 - s.c))) (ho:OwnElems rdFrame 9 w' 0 72 (fun _=>False) A l.length c l) (hy:∀ q,(ownF rdFrame 9 72 A l.length c l).S q→w0.heap.size≤q∧q < w'.heap.size) :
  InJ w' (Nw S w0 w') ⟨A,c⟩ { s with ws:=l,n:=s.n+1 } :=
 ⟨own_new keeps_frame (by decide) ho (fun q hq=>.inr (hy q hq)) (fun h=>frame_any h),ho.cap.1,ho.cap.2,h.e,by unfold inI;simp only;omega,h.u,h.g,h.k⟩
theorem q_j {v' : Jv} {s' : Wl} {e:Int} {r:Wl × Int} (hr:r=(s',e)) (hd:∀ w',Below w0.heap.size w0 w'→All D w'→(∀ f ∈ D,∀ k,f.S k→w0.heap.size≤k∧k < w'.heap.size)→InJ w' (Nw S w0 w') v' s') :
  ∃ x:Jv,(.tuple #[.agg (jc v' s'),.int .i64 e]:Value) = .tuple #[.agg (jc x r.1),.int .i64 r.2]∧Concl w0 D (fun w'=>InJ w' (Nw S w0 w') x r.1):=by
 subst hr
 exact ⟨v',rfl,fun w' hb ha hy=>hd w' hb ha hy⟩
end
theorem v_put (v:Jv) (s:Wl) (k b0 b1 b2 b3 b4 b5:Int) (S:Nat→Prop)  (w:World) (h0:InJ w S v s) (hS:∀ k,S k→k < w.heap.size) (hk:inI k) (hb:inI b0∧inI b1∧inI b2∧inI b3∧inI b4∧inI b5):Calls Tryz.prog 11 #[.agg (jc v s),.int .i64 k,.agg #[.int .i64 b0,.int .i64 b1,.int .i64 b2,.int .i64 b3,.int .i64 b4,.int .i64 b5]] w fun e w' => ∃ x:Jv,e = .returned (.tuple #[.agg (jc x (putW s k b0 b1 b2 b3 b4 b5).1),.int .i64 (putW s k b0 b1 b2 b3 b4 b5).2])∧Below w.heap.size w w'∧(fun w'=>InJ w' (Nw S w w') x (putW s k b0 b1 b2 b3 b4 b5).1) w' :=
 have h:=h0.all hS
 calls_q (fn:=Tryz.f11) (r:=fun (x:Jv)=>.tuple #[.agg (jc x (putW s k b0 b1 b2 b3 b4 b5).1),.int .i64 (putW s k b0 b1 b2 b3 b4 b5).2]) (Q:=fun (x:Jv)=>fun w'=>InJ w' (Nw S w w') x (putW s k b0 b1 b2 b3 b4 b5).1) (t:=let k0:=s.ws++[newF s k b0 b1 b2 b3 b4 b5];let k1:(Nat)→List Fact:=fun x=>[cellsF x (fc (newF s k b0 b1 b2 b3 b4 b5)) 72];let k2:=Option Addr × Nat;let k3:(Nat)→Value:=fun x=>.slice (some ⟨x,0,none⟩) 1 1;let k4:Value:=.int .i64 (s.n+1); .cs (right s) (.k (.s (.k .z) (.k (.s .z (.s .z (.s .z (.o [0] (.two (.two (.cm k2 (fun x=>.slice x.1 s.ws.length x.2) (fun x=>[ownF rdFrame 9 72 x.1 s.ws.length x.2 s.ws]) (fun x6=>.w (Nat) none k3 k1 (fun x7=>.w k2 (some 1) (fun x=>.slice x.1 (k0.length) x.2) (fun x=>[ownF rdFrame 9 72 x.1 (k0.length) x.2 k0]) (fun x8=>.e k4 .z)))) (.w (Nat) none k3 k1 (fun x9=>.cm k2 (fun x=>.slice x.1 s.ws.length x.2) (fun x=>[ownF rdFrame 9 72 x.1 s.ws.length x.2 s.ws]) (fun x10=>.w k2 (some 0) (fun x=>.slice x.1 (k0.length) x.2) (fun x=>[ownF rdFrame 9 72 x.1 (k0.length) x.2 k0]) (fun x11=>.e k4 .z))))) (.w (Nat) none k3 k1 (fun x12=>.cm k2 (fun x=>.slice x.1 s.ws.length x.2) (fun x=>[ownF rdFrame 9 72 x.1 s.ws.length x.2 s.ws]) (fun x13=>.w k2 (some 0) (fun x=>.slice x.1 (k0.length) x.2) (fun x=>[ownF rdFrame 9 72 x.1 (k0.length) x.2 k0]) (fun x14=>.e k4 .z)))))))))))) (.k (.k .z))) (X :=
 let k0:=s.ws++[newF s k b0 b1 b2 b3 b4 b5];let k1:=putW s k b0 b1 b2 b3 b4 b5;let k2:=fc (newF s k b0 b1 b2 b3 b4 b5);let k3:=(.int .i64 (IntKind.i64.wrap (s.n+1)):Value);let k4:=Option Addr × Nat;let k5:=(.tuple #[.agg (jc v s),.int .i64 1]:Value);let k6:=Instr.buildSlice 22 1 #[(0,.agg k2)];let k7:(Nat)→Value:=fun x=>.slice (some ⟨x,0,none⟩) 1 1;let k8:Array Value:=#[.slice v.A s.ws.length v.c];let k9:=decide ((s.ws.length:Int) ≥ 32);let k10:=decide (s.n > 1000000000); ∀ g0:Nat,∀ g1:Nat,∀ g2:Nat,Gives Tryz.prog w [] 13 #[.agg (jc v s)] (.bool (right s))∧((right s)=true→((decide (k < 1))=true→∃ x:Jv,k5 = .tuple #[.agg (jc x k1.1),.int .i64 k1.2]∧Concl w [] (fun w'=>InJ w' (Nw S w w') x k1.1))∧((decide (k < 1))=false→((decide (k > 6))=true→∃ x:Jv,k5 = .tuple #[.agg (jc x k1.1),.int .i64 k1.2]∧Concl w [] (fun w'=>InJ w' (Nw S w w') x k1.1))∧((decide (k > 6))=false→(k10=true→∃ x:Jv,(.tuple #[.agg (jc v s),.int .i64 3]:Value) = .tuple #[.agg (jc x k1.1),.int .i64 k1.2]∧Concl w [] (fun w'=>InJ w' (Nw S w w') x k1.1))∧(k10=false→(k9=true→∃ x:Jv,(.tuple #[.agg (jc v s),.int .i64 6]:Value) = .tuple #[.agg (jc x k1.1),.int .i64 k1.2]∧Concl w [] (fun w'=>InJ w' (Nw S w w') x k1.1))∧(k9=false→∀ g3:Nat,((GivesM Tryz.prog w [] 32 k8 k4 (fun x=>.slice x.1 s.ws.length x.2) (fun x=>[ownF rdFrame 9 72 x.1 s.ws.length x.2 s.ws])∧∀ x6:Option Addr × Nat,StepM Tryz.prog w [ownF rdFrame 9 72 x6.1 s.ws.length x6.2 s.ws] k6 (fun _=>False) (Nat) k7 (fun x=>[cellsF x k2 72])∧∀ x7:Nat,(∀ x:Option Addr × Nat,Imp w [ownF rdFrame 9 72 x.1 (k0.length) x.2 k0,cellsF x7 k2 72] [])∧StepM Tryz.prog w [cellsF x7 k2 72,ownF rdFrame 9 72 x6.1 s.ws.length x6.2 s.ws] (Builtin.append_ #[22,22] 22 #[.slice x6.1 s.ws.length x6.2,.slice (some ⟨x7,0,none⟩) 1 1]) ((ownF rdFrame 9 72 x6.1 s.ws.length x6.2 s.ws).S) k4 (fun x=>.slice x.1 (k0.length) x.2) (fun x=>[ownF rdFrame 9 72 x.1 (k0.length) x.2 k0])∧∀ x8:Option Addr × Nat,k3 = .int .i64 (s.n+1)∧∃ x:Jv,(.tuple #[.agg #[.int .i64 s.e,.int .i64 (s.n+1),.int .i64 s.u,.int .i64 s.g,.int .i64 s.c,.slice x8.1 (k0.length) x8.2],.int .i64 0]:Value) = .tuple #[.agg (jc x k1.1),.int .i64 k1.2]∧Concl w [ownF rdFrame 9 72 x8.1 (k0.length) x8.2 k0,cellsF x7 k2 72] (fun w'=>InJ w' (Nw S w w') x k1.1))∧(StepM Tryz.prog w [] k6 (fun _=>False) (Nat) k7 (fun x=>[cellsF x k2 72])∧∀ x9:Nat,GivesM Tryz.prog w [cellsF x9 k2 72] 32 k8 k4 (fun x=>.slice x.1 s.ws.length x.2) (fun x=>[ownF rdFrame 9 72 x.1 s.ws.length x.2 s.ws])∧∀ x10:Option Addr × Nat,(∀ x:Option Addr × Nat,Imp w [ownF rdFrame 9 72 x.1 (k0.length) x.2 k0,cellsF x9 k2 72] [])∧StepM Tryz.prog w [ownF rdFrame 9 72 x10.1 s.ws.length x10.2 s.ws,cellsF x9 k2 72] (Builtin.append_ #[22,22] 22 #[.slice x10.1 s.ws.length x10.2,.slice (some ⟨x9,0,none⟩) 1 1]) ((ownF rdFrame 9 72 x10.1 s.ws.length x10.2 s.ws).S) k4 (fun x=>.slice x.1 (k0.length) x.2) (fun x=>[ownF rdFrame 9 72 x.1 (k0.length) x.2 k0])∧∀ x11:Option Addr × Nat,k3 = .int .i64 (s.n+1)∧∃ x:Jv,(.tuple #[.agg #[.int .i64 s.e,.int .i64 (s.n+1),.int .i64 s.u,.int .i64 s.g,.int .i64 s.c,.slice x11.1 (k0.length) x11.2],.int .i64 0]:Value) = .tuple #[.agg (jc x k1.1),.int .i64 k1.2]∧Concl w [ownF rdFrame 9 72 x11.1 (k0.length) x11.2 k0,cellsF x9 k2 72] (fun w'=>InJ w' (Nw S w w') x k1.1)))∧(StepM Tryz.prog w [] k6 (fun _=>False) (Nat) k7 (fun x=>[cellsF x k2 72])∧∀ x12:Nat,GivesM Tryz.prog w [cellsF x12 k2 72] 32 k8 k4 (fun x=>.slice x.1 s.ws.length x.2) (fun x=>[ownF rdFrame 9 72 x.1 s.ws.length x.2 s.ws])∧∀ x13:Option Addr × Nat,(∀ x:Option Addr × Nat,Imp w [ownF rdFrame 9 72 x.1 (k0.length) x.2 k0,cellsF x12 k2 72] [])∧StepM Tryz.prog w [ownF rdFrame 9 72 x13.1 s.ws.length x13.2 s.ws,cellsF x12 k2 72] (Builtin.append_ #[22,22] 22 #[.slice x13.1 s.ws.length x13.2,.slice (some ⟨x12,0,none⟩) 1 1]) ((ownF rdFrame 9 72 x13.1 s.ws.length x13.2 s.ws).S) k4 (fun x=>.slice x.1 (k0.length) x.2) (fun x=>[ownF rdFrame 9 72 x.1 (k0.length) x.2 k0])∧∀ x14:Option Addr × Nat,k3 = .int .i64 (s.n+1)∧∃ x:Jv,(.tuple #[.agg #[.int .i64 s.e,.int .i64 (s.n+1),.int .i64 s.u,.int .i64 s.g,.int .i64 s.c,.slice x14.1 (k0.length) x14.2],.int .i64 0]:Value) = .tuple #[.agg (jc x k1.1),.int .i64 k1.2]∧Concl w [ownF rdFrame 9 72 x14.1 (k0.length) x14.2 k0,cellsF x12 k2 72] (fun w'=>InJ w' (Nw S w w') x k1.1)))))))∧((right s)=false→∃ x:Jv,k5 = .tuple #[.agg (jc x k1.1),.int .i64 k1.2]∧Concl w [] (fun w'=>InJ w' (Nw S w w') x k1.1))) Tryz.func11 (by kernel_rfl)
 (fun g0=>fun g1=>fun g2=>⟨(fun w1 hw _=>v_right v s w1 (h.later hw)),fun h1=>⟨fun h2=>have h2:k < 1:=(by simpa using h2)
(q_j (put_arg (.inr (by omega))) (fun w1 hb ha hy=>(h0.keep (low_alike hS hb) (fun _ h=>.inl h)))),
 fun h2=>have h2:¬ k < 1:=(by simpa using h2)
⟨fun h3=>have h3:6 < k:=(by simpa using h3)
(q_j (put_arg (.inr (by omega))) (fun w1 hb ha hy=>(h0.keep (low_alike hS hb) (fun _ h=>.inl h)))),
 fun h3=>have h3:¬ 6 < k:=(by simpa using h3)
⟨fun h4=>have h4:1000000000 < s.n:=(by simpa using h4)
(q_j (put_over h1 (by omega)) (fun w1 hb ha hy=>(h0.keep (low_alike hS hb) (fun _ h=>.inl h)))),
 fun h4=>have h4:¬ 1000000000 < s.n:=(by simpa using h4)
⟨fun h5=>have h5:¬ (s.ws.length:Int) < 32:=(by simpa using h5)
(q_j (put_full h1 (by omega)) (fun w1 hb ha hy=>(h0.keep (low_alike hS hb) (fun _ h=>.inl h)))),
 fun h5=>have h5:(s.ws.length:Int) < 32:=(by simpa using h5)
 fun g3=>⟨⟨⟨(fun w1 hw _=>v_clone v.A v.c s.ws w1 (h.later hw).f (by omega)),fun x6=>⟨(build_step2 (by kernel_rfl) (fun g=>by kernel_rfl)),fun x7=>⟨fun x w _ ha=>trivial,(step_to2 (by simp) rfl (append_core keeps_frame leaf_frame (by decide) Tryz.underlying22 info_frame rfl (fun _ h=>h) (row_at (j:=1) rfl) (fun w _ ha=>one_elem (block_at (j:=0) rfl w ha) rfl ⟨rfl,newF_fine h0 hk hb⟩) rfl (by unfold maxLen;omega) (by omega) (fun h=>h))),fun x8=>⟨wrap_is rfl (by have:=right_facts h1;omega) (by have:=right_facts h1;omega),(q_j (v':=⟨x8.1,x8.2⟩) (s':={ s with ws:=s.ws++[newF s k b0 b1 b2 b3 b4 b5],n:=s.n+1 }) (put_yes h1 (by omega)) (fun w1 hb1 ha hy=>put_in h0 (right_facts h1) (row_at (j:=0) rfl w1 ha) (fun q hq=>hy _ (List.mem_of_getElem? (i:=0) rfl) q hq)))⟩⟩⟩⟩,
⟨(build_step2 (by kernel_rfl) (fun g=>by kernel_rfl)),fun x9=>⟨(fun w1 hw _=>v_clone v.A v.c s.ws w1 (h.later hw).f (by omega)),fun x10=>⟨fun x w _ ha=>trivial,(step_to2 (by simp) rfl (append_core keeps_frame leaf_frame (by decide) Tryz.underlying22 info_frame rfl (fun _ h=>h) (row_at (j:=0) rfl) (fun w _ ha=>one_elem (block_at (j:=1) rfl w ha) rfl ⟨rfl,newF_fine h0 hk hb⟩) rfl (by unfold maxLen;omega) (by omega) (fun h=>h))),fun x11=>⟨wrap_is rfl (by have:=right_facts h1;omega) (by have:=right_facts h1;omega),(q_j (v':=⟨x11.1,x11.2⟩) (s':={ s with ws:=s.ws++[newF s k b0 b1 b2 b3 b4 b5],n:=s.n+1 }) (put_yes h1 (by omega)) (fun w1 hb1 ha hy=>put_in h0 (right_facts h1) (row_at (j:=0) rfl w1 ha) (fun q hq=>hy _ (List.mem_of_getElem? (i:=0) rfl) q hq)))⟩⟩⟩⟩⟩,
⟨(build_step2 (by kernel_rfl) (fun g=>by kernel_rfl)),fun x12=>⟨(fun w1 hw _=>v_clone v.A v.c s.ws w1 (h.later hw).f (by omega)),fun x13=>⟨fun x w _ ha=>trivial,(step_to2 (by simp) rfl (append_core keeps_frame leaf_frame (by decide) Tryz.underlying22 info_frame rfl (fun _ h=>h) (row_at (j:=0) rfl) (fun w _ ha=>one_elem (block_at (j:=1) rfl w ha) rfl ⟨rfl,newF_fine h0 hk hb⟩) rfl (by unfold maxLen;omega) (by omega) (fun h=>h))),fun x14=>⟨wrap_is rfl (by have:=right_facts h1;omega) (by have:=right_facts h1;omega),(q_j (v':=⟨x14.1,x14.2⟩) (s':={ s with ws:=s.ws++[newF s k b0 b1 b2 b3 b4 b5],n:=s.n+1 }) (put_yes h1 (by omega)) (fun w1 hb1 ha hy=>put_in h0 (right_facts h1) (row_at (j:=0) rfl w1 ha) (fun q hq=>hy _ (List.mem_of_getElem? (i:=0) rfl) q hq)))⟩⟩⟩⟩⟩⟩⟩⟩⟩,
 fun h1=>(q_j (put_arg (.inl h1)) (fun w1 hb ha hy=>(h0.keep (low_alike hS hb) (fun _ h=>.inl h))))⟩)
end Go.Proofs.YtalhdalinpdanaaGreatDoor.wal
end
section
namespace Go.Proofs.YtalhdalinpdanaaGreatDoor.wal
set_option maxRecDepth 20000
open Go.RowKit Go.Proofs.YtalhdalinpdanaaGreatDoor Go.Proofs.YtalhdalinpdanaaGreatDoor.frame Go.Proofs.YtalhdalinpdanaaGreatDoor.disk
theorem turns_trans {w0:World} {D fs gs:List Fact} (h:Turns w0 D fs) (h' : Turns w0 fs gs):Turns w0 D gs:=fun h1 h2=>by
 obtain ⟨a1,a2,a3,a4⟩:=h h1 h2
 obtain ⟨b1,b2,b3,b4⟩:=h' a1 a2
 refine ⟨b1,b2,fun f hf k hk=>?_,fun w hb ha=>b4 w hb (a4 w hb ha)⟩
 obtain ⟨g,hg,hk2⟩:=b3 f hf k hk
 exact a3 g hg k hk2
abbrev turnAt {β δ:Type} {S:Nat→Prop} {W:World} {R:World→(Nat→Prop)→β→Prop} {R2:World→(Nat→Prop)→δ→Prop} (x:Dat R S W) (d:δ) (h:R2 x.1.1 (fun k=>S k∨x.1.2.1 k) d):Dat R2 S W:=⟨(x.1.1,x.1.2.1,d),h,x.2.2⟩
section
variable {S:Nat→Prop} {W:World} {α β γ δ:Type} {RA:World→(Nat→Prop)→α→Prop} {RB' : World→(Nat→Prop)→β→Prop} {RC:World→(Nat→Prop)→γ→Prop} {RD' : World→(Nat→Prop)→δ→Prop}
abbrev glue4 (ka:Keeps3 RA) (y:Dat RA S W) (kb:Keeps3 RB') (x1:Dat RB' (Un S y.1.2.1) y.1.1) (kc:Keeps3 RC) (x2:Dat RC (Un (Un S y.1.2.1) x1.1.2.1) x1.1.1) (kd:Keeps3 RD') (x3:Dat RD' (Un (Un (Un S y.1.2.1) x1.1.2.1) x2.1.2.1) x2.1.1) :=
 glue ka y (keeps_and kb (keeps_and kc kd)) (glue kb x1 (keeps_and kc kd) (glue kc x2 kd x3))
theorem turns_four {w0:World} (ka:Keeps3 RA) (y:Dat RA S W) (kb:Keeps3 RB') (x1:Dat RB' (Un S y.1.2.1) y.1.1) (kc:Keeps3 RC) (x2:Dat RC (Un (Un S y.1.2.1) x1.1.2.1) x1.1.1) (kd:Keeps3 RD') (x3:Dat RD' (Un (Un (Un S y.1.2.1) x1.1.2.1) x2.1.2.1) x2.1.1) {E:List Fact} :
  Turns w0 (poolF x3.1.1 x3.1.2.1 :: poolF x2.1.1 x2.1.2.1 :: poolF x1.1.1 x1.1.2.1 :: poolF y.1.1 y.1.2.1 :: E) (poolF (glue4 ka y kb x1 kc x2 kd x3).1.1 (glue4 ka y kb x1 kc x2 kd x3).1.2.1 :: E) :=
 turns_trans (turns_glue2 kc x2 kd x3) (turns_trans (turns_glue2 kb x1 (keeps_and kc kd) (glue kc x2 kd x3)) (turns_glue2 ka y (keeps_and kb (keeps_and kc kd)) (glue kb x1 (keeps_and kc kd) (glue kc x2 kd x3))))
end
abbrev TabW (w : World) : Prop := Lib.TabIs Tryz.prog w "internal/strconv.uint64pow10" .u64 Lib.pow10Tab
section
variable {w0 W:World} {D:List Fact} {S:Nat→Prop} {v:Jv} {s:Wl} {u:Dv} {t:DiskD}
theorem g_wput {k b0 b1 b2 b3 b4 b5:Int} {r:Wl × Int} (e:putW s k b0 b1 b2 b3 b4 b5=r) (hF:Fixed w0 D S W) (hj:∀ w,Below w0.heap.size w0 w→All D w→InJ w S v s) (hk:inI k) (hb:inI b0∧inI b1∧inI b2∧inI b3∧inI b4∧inI b5) :
  GivesM Tryz.prog w0 D 11 #[.agg (jc v s),.int .i64 k,.agg #[.int .i64 b0,.int .i64 b1,.int .i64 b2,.int .i64 b3,.int .i64 b4,.int .i64 b5]] (Dat (fun w S v=>InJ w S v r.1) S W) (fun x=>.tuple #[.agg (jc x.1.2.2 r.1),.int .i64 r.2]) (fun x=>[poolF x.1.1 x.1.2.1]):=by
 subst e
 exact gives_dat (R:=fun w S v=>InJ w S v (putW s k b0 b1 b2 b3 b4 b5).1) (r:=fun b=>.tuple #[.agg (jc b (putW s k b0 b1 b2 b3 b4 b5).1),.int .i64 (putW s k b0 b1 b2 b3 b4 b5).2]) hF (fun w hw ha=>v_put v s k b0 b1 b2 b3 b4 b5 S w (hj w hw ha) (hF w hw ha).2 hk hb)
theorem g_wcommit {r:Wl × DiskD × Int} (e:commitL s t=r) (hF:Fixed w0 D S W) (hj:∀ w,Below w0.heap.size w0 w→All D w→InJ w S v s) (hd:∀ w,Below w0.heap.size w0 w→All D w→InD w S u t) (hs:shortB t.files=true) (ht:TabW w0) (he:ErrVar w0) :
  GivesM Tryz.prog w0 D 16 #[.agg (jc v s),.agg (dc u t)] (Dat (RW r) S W) (fun x=>.tuple #[.agg (jc x.1.2.2.1 r.1),.agg (dc x.1.2.2.2 r.2.1),.int .i64 r.2.2]) (fun x=>[poolF x.1.1 x.1.2.1]):=by
 subst e
 exact gives_dat (R:=RW (commitL s t)) (r:=fun b=>.tuple #[.agg (jc b.1 (commitL s t).1),.agg (dc b.2 (commitL s t).2.1),.int .i64 (commitL s t).2.2]) hF (fun w hw ha=>v_commit v s u t S w (hj w hw ha) (hd w hw ha) (hF w hw ha).2 hs (var_later ht hw) (ev_later he hw))
theorem g_back {A:Option Addr} {c:Nat} {fu:Int} {ks:List Int} {r:DiskD × Int} (e:backD t ks fu=r) (hF:Fixed w0 D S W) (hd:∀ w,Below w0.heap.size w0 w→All D w→InD w S u t) (hs:shortB t.files=true) (hb:∀ w,Below w0.heap.size w0 w→All D w→IntsIn .i64 w S A ks) (hc:ks.length≤c) (hm:c≤maxLen) (hl:ks.length≤80) (hf:inI fu) :
  GivesM Tryz.prog w0 D 29 #[.agg (dc u t),.slice A ks.length c,.int .i64 fu] (Dat (fun w S v=>InD w S v r.1) S W) (fun x=>.tuple #[.agg (dc x.1.2.2 r.1),.int .i64 r.2]) (fun x=>[poolF x.1.1 x.1.2.1]):=by
 subst e
 exact gives_dat (R:=fun w S v=>InD w S v (backD t ks fu).1) (r:=fun b=>.tuple #[.agg (dc b (backD t ks fu).1),.int .i64 (backD t ks fu).2]) hF (fun w hw ha=>d_back (hF w hw ha).2 (hd w hw ha) hs (hb w hw ha) hc hm hl hf)
theorem g_wsegs {l:List Int} (e:segs t=l) (hd:∀ w,Below w0.heap.size w0 w→All D w→InD w (Lt w.heap.size) u t) (hs:shortB t.files=true) (ht:TabW w0) (he:ErrVar w0) :
  GivesM Tryz.prog w0 D 21 #[.agg (dc u t)] (Option Addr × Nat) (fun x=>.slice x.1 l.length x.2) (fun x=>[ownF (rdInt .i64) 1 2 x.1 l.length x.2 l]):=by
 subst e
 exact fun w hw ha=>v_segments u t w (hd w hw ha) hs (var_later ht hw) (ev_later he hw)
theorem g_wright {b:Bool} (e:right s=b) (hj:∀ w,Below w0.heap.size w0 w→All D w→InJ w (Lt w.heap.size) v s):Gives Tryz.prog w0 D 13 #[.agg (jc v s)] (.bool b):=fun w hw ha=>by
 subst e;exact v_right v s w (hj w hw ha)
end
end Go.Proofs.YtalhdalinpdanaaGreatDoor.wal
end
section
namespace Go.Proofs.YtalhdalinpdanaaGreatDoor.wal
open Go.RowKit Go.Proofs.YtalhdalinpdanaaGreatDoor Go.Proofs.YtalhdalinpdanaaGreatDoor.frame Go.Proofs.YtalhdalinpdanaaGreatDoor.disk
set_option maxRecDepth 20000
section
variable {w0:World} {D:List Fact}
end
end Go.Proofs.YtalhdalinpdanaaGreatDoor.wal
end
section
namespace Go.Proofs.YtalhdalinpdanaaGreatDoor.wal
open Go.RowKit Go.Proofs.YtalhdalinpdanaaGreatDoor Go.Proofs.YtalhdalinpdanaaGreatDoor.frame Go.Proofs.YtalhdalinpdanaaGreatDoor.disk
set_option maxRecDepth 20000
section
variable {P:Program} {w0:World} {D:List Fact}
end
end Go.Proofs.YtalhdalinpdanaaGreatDoor.wal
end
section
namespace Go.Proofs.YtalhdalinpdanaaGreatDoor.wal
open Go.RowKit Go.Proofs.YtalhdalinpdanaaGreatDoor Go.Proofs.YtalhdalinpdanaaGreatDoor.frame Go.Proofs.YtalhdalinpdanaaGreatDoor.disk
set_option maxRecDepth 20000
section
variable {nm:ByteArray} {y:Nat}
variable {P:Program} {w0:World} {D:List Fact}
end
end Go.Proofs.YtalhdalinpdanaaGreatDoor.wal
end
section
namespace Go.Proofs.YtalhdalinpdanaaGreatDoor.wal
open Go.RowKit Go.Proofs.YtalhdalinpdanaaGreatDoor Go.Proofs.YtalhdalinpdanaaGreatDoor.frame Go.Proofs.YtalhdalinpdanaaGreatDoor.disk
set_option maxRecDepth 20000
section
variable {w0:World} {D:List Fact} {v:Dv} {s:DiskD}
end
end Go.Proofs.YtalhdalinpdanaaGreatDoor.wal
end
section
namespace Go.Proofs.YtalhdalinpdanaaGreatDoor.wal
open Go.RowKit Go.Proofs.YtalhdalinpdanaaGreatDoor Go.Proofs.YtalhdalinpdanaaGreatDoor.frame Go.Proofs.YtalhdalinpdanaaGreatDoor.disk
set_option maxRecDepth 20000
section
variable {w0 w1:World} {D:List Fact} {S:Nat→Prop} {u:Dv} {t:DiskD} {s:Wl}
end
end Go.Proofs.YtalhdalinpdanaaGreatDoor.wal
end
section
namespace Go.Proofs.YtalhdalinpdanaaGreatDoor.wal
open Go.RowKit Go.Proofs.YtalhdalinpdanaaGreatDoor Go.Proofs.YtalhdalinpdanaaGreatDoor.frame Go.Proofs.YtalhdalinpdanaaGreatDoor.disk
set_option maxRecDepth 20000
section
variable {d:DiskD} {lsn L:Int} {i:Nat} {s:Wl} {t:DiskD}
end
section
variable {w0 W:World} {D:List Fact} {S:Nat→Prop} {u:Dv} {t:DiskD}
end
end Go.Proofs.YtalhdalinpdanaaGreatDoor.wal
end
section
namespace Go.Proofs.YtalhdalinpdanaaGreatDoor.wal
open Go.RowKit Go.Proofs.YtalhdalinpdanaaGreatDoor Go.Proofs.YtalhdalinpdanaaGreatDoor.frame Go.Proofs.YtalhdalinpdanaaGreatDoor.disk
set_option maxRecDepth 20000
section
variable {s a:Wl} {t b:DiskD} {G C:Int} {k:Nat}
end
section
variable {w0 W:World} {D:List Fact} {S:Nat→Prop} {v:Jv} {s:Wl} {u:Dv} {t:DiskD}
end
end Go.Proofs.YtalhdalinpdanaaGreatDoor.wal
end
