/-
  WalI6
-/
import Derived.Test.YtalhdalinpdanaaGreatDoorMwp37
set_option linter.unusedVariables false
set_option linter.unusedSimpArgs false
namespace Go.Proofs.YtalhdalinpdanaaGreatDoor.wal
open Go.RowKit Go.Proofs.YtalhdalinpdanaaGreatDoor Go.Proofs.YtalhdalinpdanaaGreatDoor.frame Go.Proofs.YtalhdalinpdanaaGreatDoor.disk
set_option maxRecDepth 20000
abbrev RL:World→(Nat→Prop)→(Jv × Wl) × (Dv × DiskD)→Prop:=fun w S b=>InJ w S b.1.1 b.1.2∧InD w S b.2.1 b.2.2
theorem keeps_l:Keeps3 RL:=fun w w' S S' b h ha hs=>⟨h.1.keep ha.alike hs,h.2.keep ha.alike hs⟩
abbrev RW (r:Wl × DiskD × Int):World→(Nat→Prop)→Jv × Dv→Prop:=fun w S b=>InJ w S b.1 r.1∧InD w S b.2 r.2.1
theorem keeps_w (r:Wl × DiskD × Int):Keeps3 (RW r):=fun w w' S S' b h ha hs=>⟨h.1.keep ha.alike hs,h.2.keep ha.alike hs⟩
section
variable {S:Nat→Prop} {W:World}
abbrev nextL (y:Dat RL S W) (r:Wl × DiskD × Int) (z:Dat (RW r) (Un S y.1.2.1) y.1.1):Dat RL S W:=turn (glue keeps_l y (keeps_w r) z) (fun b=>((b.2.1,r.1),(b.2.2,r.2.1))) (fun _ _ _ h=>h.2)
theorem turns_glue2 {β γ:Type} {R:World→(Nat→Prop)→β→Prop} {R' : World→(Nat→Prop)→γ→Prop} {w0:World} (hK:Keeps3 R) (x:Dat R S W) (hK' : Keeps3 R') (z:Dat R' (Un S x.1.2.1) x.1.1) {E:List Fact} : Turns w0 (poolF z.1.1 z.1.2.1 :: poolF x.1.1 x.1.2.1 :: E) (poolF (glue hK x hK' z).1.1 (glue hK x hK' z).1.2.1 :: E):=fun h1 h2=>by
 obtain ⟨a1,a2⟩:=List.pairwise_cons.1 h2
 obtain ⟨b1,b2⟩:=List.pairwise_cons.1 a2
 refine ⟨fun f hf=>?_,List.pairwise_cons.2 ⟨fun g hg k hk hk2=>?_,b2⟩,fun f hf k hk=>?_,fun w' hw ha=>⟨fun k hk=>?_,ha.2.2⟩⟩
 ·rcases List.mem_cons.1 hf with rfl | hf
  ·exact poolF_stable _ _
  ·exact h1 f (List.mem_cons_of_mem _ (List.mem_cons_of_mem _ hf))
 ·rcases hk with hk | hk
  ·exact b1 g hg k hk hk2
  ·exact a1 g (List.mem_cons_of_mem _ hg) k hk hk2
 ·rcases List.mem_cons.1 hf with rfl | hf
  ·rcases hk with hk | hk
   ·exact ⟨poolF x.1.1 x.1.2.1,by simp,hk⟩
   ·exact ⟨poolF z.1.1 z.1.2.1,by simp,hk⟩
  ·exact ⟨f,List.mem_cons_of_mem _ (List.mem_cons_of_mem _ hf),hk⟩
 ·rcases hk with hk | hk
  ·exact (ha.2.1 k hk).trans (z.2.2.1 k (.inr hk)).symm
  ·exact ha.1 k hk
end
def commitA:Nat→Wl→DiskD→Wl × DiskD × Int
 | 0,s,t=>(s,t,0)
 |k+1,s,t=>if s.ws=[] then (s,t,0) else if (writeW s t).2.2=0 then commitA k (writeW s t).1 (writeW s t).2.1 else writeW s t
def commitL (s:Wl) (t:DiskD):Wl × DiskD × Int:=if fitsL s t=true then commitA 33 s t else (s,t,1)
theorem row_drop:∀ (l:List FrameD) (n e:Int) (k:Nat),(∀ f ∈ l,f.e=e)→k≤l.length→scan.row l n e=true→scan.row (l.drop k) (n+k) e=true
 |l,n,e,0,_,_,h=>by simpa using h
 | [],n,e,k+1,_,hk,_=>by simp at hk
 |f :: l,n,e,k+1,ha,hk,h=>by
  obtain ⟨h1,h2,h3,h4⟩:=(scan.row_cons _ _ _ _).1 h
  rw [ha f (by simp)] at h4
  have:=row_drop l (n+1) e k (fun g hg=>ha g (by simp [hg])) (by simpa using hk) h4
  rw [show n+((k+1:Nat):Int)=n+1+(k:Int) by omega]
  exact this
theorem step_right {s:Wl} (hr:right s=true) (hne:s.ws≠[]):right (stepW s)=true∧(stepW s).ws.length < s.ws.length:=by
 have hst:StepIs s (begun s).g (begun s).c:=⟨rfl,rfl⟩
 have h1:=step_rng hr hst;have h2:=right_facts hr;have h3:=room_8 hr hst;have h4:=room_le s;have h5:=ws_pos hne;have h6:=room_eq hr hst
 have e1:(stepW s).e=s.e∧(stepW s).n=s.n∧(stepW s).u=s.u+(room s:Int)∧(stepW s).g=(begun s).g∧(stepW s).c=(begun s).c+(room s:Int)∧(stepW s).ws=s.ws.drop (room s):=by
  unfold stepW begun
  split<;>exact ⟨rfl,rfl,rfl,rfl,rfl,rfl⟩
 obtain ⟨e1,e2,e3,e4,e5,e6⟩:=e1
 have hg:(begun s).g=s.u+1 - (begun s).c:=by
  unfold begun
  split
  ·simp
  ·rename_i hq;omega
 rw [right_split] at hr
 unfold waitsL at hr
 simp only [Bool.and_eq_true,decide_eq_true_eq,Bool.not_eq_true'] at hr
 obtain ⟨⟨_,⟨_,hrow⟩,hany⟩,_⟩:=hr
 have hall:∀ f ∈ s.ws,f.e=s.e:=fun f hf=>by
  have:=(List.any_eq_false.1 hany) f hf
  simpa using this
 have hlen:(s.ws.drop (room s)).length=s.ws.length - room s:=List.length_drop
 refine ⟨right_yes (by rw [e1,e2,e3];omega) (waits_yes (by rw [e2,e3,e6,hlen];omega) ?_ ?_) ?_,by rw [e6,hlen];omega⟩
 ·rw [e6,e3,e1,show s.u+(room s:Int)+1=s.u+1+(room s:Int) by omega]
  exact row_drop _ _ _ _ hall h4 hrow
 ·rw [e6,e1,List.any_eq_false]
  intro f hf
  simp [hall f (List.mem_of_mem_drop hf)]
 ·unfold segB
  rw [e3,e4,e5]
  exact decide_eq_true (by omega)
theorem write_zero {s:Wl} {t:DiskD} (h:(writeW s t).2.2=0):writeW s t=(stepW s,(syncD (appendD t (nameOf (stepW s).g) (scan.put (s.ws.take (room s)))).1 (nameOf (stepW s).g)).1,0):=by
 unfold writeW at h ⊢
 simp only at h ⊢
 split at h<;>rename_i h1
 ·split at h<;>rename_i h2
  ·rw [if_pos h1,if_pos h2]
  ·exact absurd h h2
 ·exact absurd h h1
theorem write_disk {s:Wl} {t:DiskD} (h:rightB t=true):rightB (writeW s t).2.1=true:=by
 unfold writeW
 simp only
 split
 ·split
  ·exact right_sync (right_append h)
  ·exact right_sync (right_append h)
 ·exact right_append h
section
variable {s a:Wl} {t b d:DiskD} {lsn L:Int} {i:Nat}
theorem fits_parts (h:fitsL s t=true):right s=true∧rightB t=true∧(segs t).any (fun x:Int=>decide (s.u < x))=false∧(s.g=0∨((heldV t s.g).length:Int)=s.c * 72):=by
 unfold fitsL at h
 simp only [Bool.and_eq_true,Bool.or_eq_true,decide_eq_true_eq,Bool.not_eq_true'] at h
 exact ⟨h.1.1,h.1.2,h.2.1,h.2.2⟩
theorem right_of_fits (h:fitsL s t=true):right s=true:=(fits_parts h).1
theorem rightB_of_fits (h:fitsL s t=true):rightB t=true:=(fits_parts h).2.1
theorem ws_ne (h:(0:Int) < (a.ws.length:Int)):a.ws≠[]:=fun e=>by rw [e] at h;simp at h
theorem commit_start (hr:right s=true) (hd:rightB t=true):right s=true∧rightB t=true∧∃ k:Nat,s.ws.length≤k∧commitA 33 s t=commitA k s t:=⟨hr,hd,33,by have:=right_facts hr;omega,rfl⟩
theorem commit_less (h:right a=true∧rightB b=true∧∃ k:Nat,a.ws.length≤k∧commitA 33 s t=commitA k a b) (hne:a.ws≠[]) (he:(writeW a b).2.2=0):(writeW a b).1.ws.length < a.ws.length:=by
 rw [write_zero he];exact (step_right h.1 hne).2
theorem commit_step (h:right a=true∧rightB b=true∧∃ k:Nat,a.ws.length≤k∧commitA 33 s t=commitA k a b) (hne:a.ws≠[]) (he:(writeW a b).2.2=0):right (writeW a b).1=true∧rightB (writeW a b).2.1=true∧∃ k:Nat,(writeW a b).1.ws.length≤k∧commitA 33 s t=commitA k (writeW a b).1 (writeW a b).2.1:=by
 have hl:=commit_less h hne he
 obtain ⟨h1,h2,k,h3,h4⟩:=h
 have hp:=ws_pos hne
 refine ⟨by rw [write_zero he];exact (step_right h1 hne).1,write_disk h2,k - 1,by omega,?_⟩
 rw [h4]
 obtain ⟨k,rfl⟩:∃ j,k=j+1:=⟨k - 1,by omega⟩
 rw [commitA,if_neg hne,if_pos he]
 rfl
theorem c_no (h:fitsL s t=false):commitL s t=(s,t,1):=by unfold commitL;rw [if_neg (by rw [h];simp)]
theorem c_err (hf:fitsL s t=true) (h:right a=true∧rightB b=true∧∃ k:Nat,a.ws.length≤k∧commitA 33 s t=commitA k a b) (hne:a.ws≠[]) (he:¬ (writeW a b).2.2=0):commitL s t=((writeW a b).1,(writeW a b).2.1,(writeW a b).2.2):=by
 obtain ⟨h1,h2,k,h3,h4⟩:=h
 have hp:=ws_pos hne
 unfold commitL
 rw [if_pos hf,h4]
 obtain ⟨k,rfl⟩:∃ j,k=j+1:=⟨k - 1,by omega⟩
 rw [commitA,if_neg hne,if_neg he]
theorem c_end (hf:fitsL s t=true) (h:right a=true∧rightB b=true∧∃ k:Nat,a.ws.length≤k∧commitA 33 s t=commitA k a b) (hne:a.ws.length=0):commitL s t=(a,b,0):=by
 obtain ⟨h1,h2,k,h3,h4⟩:=h
 unfold commitL
 rw [if_pos hf,h4]
 cases k with
 |zero=>rfl
 |succ k=>rw [commitA,if_pos (List.eq_nil_of_length_eq_zero hne)]
theorem segs_rng (t:DiskD):∀ n ∈ segs t,1≤n∧n≤1000000000:=fun n hn=>by
 unfold segs at hn
 split at hn
 ·obtain ⟨h1,h2⟩:=List.mem_filter.1 hn
  obtain ⟨f,_,rfl⟩:=List.mem_map.1 h1
  have:=numOf_le f.name
  simp at h2
  omega
 ·cases hn
theorem seg_rng {l:List Int} {k:Nat} (h:∀ n ∈ l,1≤n∧n≤1000000000) (hk:k < l.length):1≤l.getD k 0∧l.getD k 0≤1000000000:=by
 rw [List.getD_eq_getElem?_getD,List.getElem?_eq_getElem hk]
 exact h _ (List.getElem_mem hk)
theorem seg_in {l:List Int} {k:Nat} (h:∀ n ∈ l,1≤n∧n≤1000000000) (hk:k < l.length):inI (l.getD k 0):=by
 have:=seg_rng h hk;unfold inI;omega
end
section
variable {w0 W:World} {D:List Fact} {S:Nat→Prop} {v:Jv} {s:Wl} {u:Dv} {t:DiskD}
theorem g_written (hF : Fixed w0 D S W) (hj : ∀ w, Below w0.heap.size w0 w → All D w → InJ w S v s) (hd : ∀ w, Below w0.heap.size w0 w → All D w → InD w S u t) (hr : right s = true) (hdr : rightB t = true) (hne : s.ws ≠ []) (ht : Lib.TabIs Tryz.prog w0 "internal/strconv.uint64pow10" .u64 Lib.pow10Tab) :
  GivesM Tryz.prog w0 D 37 #[.agg (jc v s),.agg (dc u t)] (Dat (RW (writeW s t)) S W) (fun x=>.tuple #[.agg (jc x.1.2.2.1 (writeW s t).1),.agg (dc x.1.2.2.2 (writeW s t).2.1),.int .i64 (writeW s t).2.2]) (fun x=>[poolF x.1.1 x.1.2.1]) :=
 gives_dat (R:=RW (writeW s t)) (r:=fun b=>.tuple #[.agg (jc b.1 (writeW s t).1),.agg (dc b.2 (writeW s t).2.1),.int .i64 (writeW s t).2.2]) hF (fun w hw ha=>v_written v s u t S w (hj w hw ha) (hd w hw ha) (hF w hw ha).2 hr hdr hne (var_later ht hw))
theorem q_d {u' : Dv} {d' : DiskD} {e:Int} {r:DiskD × Int} (hr:r=(d',e)) (hd:∀ w',Below w0.heap.size w0 w'→All D w'→(∀ f ∈ D,∀ k,f.S k→w0.heap.size≤k∧k < w'.heap.size)→InD w' (Nw S w0 w') u' d') :
  ∃ x:Dv,(.tuple #[.agg (dc u' d'),.int .i64 e]:Value) = .tuple #[.agg (dc x r.1),.int .i64 r.2]∧Concl w0 D (fun w'=>InD w' (Nw S w0 w') x r.1):=by
 subst hr
 exact ⟨u',rfl,fun w' hb ha hy=>hd w' hb ha hy⟩
end
theorem v_commit (v : Jv) (s : Wl) (u : Dv) (t : DiskD) (S : Nat → Prop)  (w : World) (h0 : InJ w S v s) (hd0 : InD w S u t) (hS : ∀ k, S k → k < w.heap.size) (hs : shortB t.files = true) (ht : Lib.TabIs Tryz.prog w "internal/strconv.uint64pow10" .u64 Lib.pow10Tab) (he : ErrVar w) : Calls Tryz.prog 16 #[.agg (jc v s), .agg (dc u t)] w fun e w' => ∃ x : Jv × Dv, e = .returned (.tuple #[.agg (jc x.1 (commitL s t).1), .agg (dc x.2 (commitL s t).2.1), .int .i64 (commitL s t).2.2]) ∧ Below w.heap.size w w' ∧ (fun w' => InJ w' (Nw S w w') x.1 (commitL s t).1 ∧ InD w' (Nw S w w') x.2 (commitL s t).2.1) w' :=
 have h:=h0.all hS
 have hd:=hd0.all hS
 calls_q (fn:=Tryz.f16) (r:=fun (x:Jv × Dv)=>.tuple #[.agg (jc x.1 (commitL s t).1),.agg (dc x.2 (commitL s t).2.1),.int .i64 (commitL s t).2.2]) (Q:=fun (x:Jv × Dv)=>fun w'=>InJ w' (Nw S w w') x.1 (commitL s t).1∧InD w' (Nw S w w') x.2 (commitL s t).2.1) (t:=.cs (fitsL s t) (.l (Dat RL S w) (fun x=>[(2,undef,some (0,0)),(3,undef,some (1,0)),(4,undef,some (2,0)),(5,undef,some (3,0))]) (fun x=>[(0,#[.int .i64 x.1.2.2.1.2.e,.int .i64 x.1.2.2.1.2.n,.int .i64 x.1.2.2.1.2.u,.int .i64 x.1.2.2.1.2.g,.int .i64 x.1.2.2.1.2.c,.slice x.1.2.2.1.1.A x.1.2.2.1.2.ws.length x.1.2.2.1.1.c]),(1,#[.slice x.1.2.2.2.1.A x.1.2.2.2.2.files.length x.1.2.2.2.1.c,.int .i64 x.1.2.2.2.2.room,.int .i64 x.1.2.2.2.2.fuse,.bool x.1.2.2.2.2.down])]) [0,1,2,3] [poolF w (fun _=>False)] (fun x=>[poolF x.1.1 x.1.2.1]) (fun x=>right x.1.2.2.1.2=true∧rightB x.1.2.2.2.2=true∧∃ k:Nat,x.1.2.2.1.2.ws.length≤k∧commitA 33 s t=commitA k x.1.2.2.1.2 x.1.2.2.2.2) (fun x=>x.1.2.2.1.2.ws.length) (given_ (R:=RL) (b:=((v,s),(u,t))) ⟨h0,hd0⟩ keeps_l:Dat RL S w) (fun y2=>let k0:=writeW y2.1.2.2.1.2 y2.1.2.2.2.2; .s (.cm (Dat (RW k0) (Un S y2.1.2.1) y2.1.1) (fun x=>.tuple #[.agg (jc x.1.2.2.1 (k0.1)),.agg (dc x.1.2.2.2 (k0.2.1)),.int .i64 (k0.2.2)]) (fun x=>[poolF x.1.1 x.1.2.1]) (fun x6=>.s (.o [2,3] .z) .z)) (.o [2,3] .z))) (.o [2,3] .z)) (X :=
 let k0:Array Value:=#[.int .i64 0,.int .i64 0,.int .i64 0,.int .i64 0,.int .i64 0,.slice none 0 0];let k1:Array Value:=#[.slice none 0 0,.int .i64 0,.int .i64 0,.bool false]; ∀ g0:Nat,let k2:Option Addr:=some ⟨g0,0,none⟩;  ∀ g1:Nat,let k3:Option Addr:=some ⟨g1,0,none⟩;  ∀ g2:Nat,let k4:Option Addr:=some ⟨g2,0,none⟩;  ∀ g3:Nat,let k6:Option Addr:=some ⟨g3,0,none⟩;let k5:=([.pointer k2,.pointer k3,.pointer k4,.pointer k6]:List Value);Gives Tryz.prog w [] 36 #[.agg (jc v s),.agg (dc u t)] (.bool (fitsL s t))∧((fitsL s t)=true→Brings w [] [poolF w (fun _=>False)]∧(right (given_ (R:=RL) (b:=((v,s),(u,t))) ⟨h0,hd0⟩ keeps_l:Dat RL S w).1.2.2.1.2=true∧rightB (given_ (R:=RL) (b:=((v,s),(u,t))) ⟨h0,hd0⟩ keeps_l:Dat RL S w).1.2.2.2.2=true∧∃ k:Nat,(given_ (R:=RL) (b:=((v,s),(u,t))) ⟨h0,hd0⟩ keeps_l:Dat RL S w).1.2.2.1.2.ws.length≤k∧commitA 33 s t=commitA k (given_ (R:=RL) (b:=((v,s),(u,t))) ⟨h0,hd0⟩ keeps_l:Dat RL S w).1.2.2.1.2 (given_ (R:=RL) (b:=((v,s),(u,t))) ⟨h0,hd0⟩ keeps_l:Dat RL S w).1.2.2.2.2)∧(k5=[.pointer k2,.pointer k3,.pointer k4,.pointer k6]∧([some ⟨g3,0,k1,.own 27⟩,some ⟨g2,0,k0,.own 24⟩,some ⟨g1,0,(dc u t),.own 27⟩,some ⟨g0,0,(jc v s),.own 24⟩]:List (Option Blk))=[some ⟨g3,0,k1,.own 27⟩,some ⟨g2,0,k0,.own 24⟩,some ⟨g1,0,#[.slice ((given_ (R:=RL) (b:=((v,s),(u,t))) ⟨h0,hd0⟩ keeps_l:Dat RL S w).1.2.2.2.1.A) ((given_ (R:=RL) (b:=((v,s),(u,t))) ⟨h0,hd0⟩ keeps_l:Dat RL S w).1.2.2.2.2.files.length) ((given_ (R:=RL) (b:=((v,s),(u,t))) ⟨h0,hd0⟩ keeps_l:Dat RL S w).1.2.2.2.1.c),.int .i64 ((given_ (R:=RL) (b:=((v,s),(u,t))) ⟨h0,hd0⟩ keeps_l:Dat RL S w).1.2.2.2.2.room),.int .i64 ((given_ (R:=RL) (b:=((v,s),(u,t))) ⟨h0,hd0⟩ keeps_l:Dat RL S w).1.2.2.2.2.fuse),.bool ((given_ (R:=RL) (b:=((v,s),(u,t))) ⟨h0,hd0⟩ keeps_l:Dat RL S w).1.2.2.2.2.down)],.own 27⟩,some ⟨g0,0,#[.int .i64 ((given_ (R:=RL) (b:=((v,s),(u,t))) ⟨h0,hd0⟩ keeps_l:Dat RL S w).1.2.2.1.2.e),.int .i64 ((given_ (R:=RL) (b:=((v,s),(u,t))) ⟨h0,hd0⟩ keeps_l:Dat RL S w).1.2.2.1.2.n),.int .i64 ((given_ (R:=RL) (b:=((v,s),(u,t))) ⟨h0,hd0⟩ keeps_l:Dat RL S w).1.2.2.1.2.u),.int .i64 ((given_ (R:=RL) (b:=((v,s),(u,t))) ⟨h0,hd0⟩ keeps_l:Dat RL S w).1.2.2.1.2.g),.int .i64 ((given_ (R:=RL) (b:=((v,s),(u,t))) ⟨h0,hd0⟩ keeps_l:Dat RL S w).1.2.2.1.2.c),.slice ((given_ (R:=RL) (b:=((v,s),(u,t))) ⟨h0,hd0⟩ keeps_l:Dat RL S w).1.2.2.1.1.A) ((given_ (R:=RL) (b:=((v,s),(u,t))) ⟨h0,hd0⟩ keeps_l:Dat RL S w).1.2.2.1.2.ws.length) ((given_ (R:=RL) (b:=((v,s),(u,t))) ⟨h0,hd0⟩ keeps_l:Dat RL S w).1.2.2.1.1.c)],.own 24⟩]∧Turns w [poolF w (fun _=>False)] [poolF (given_ (R:=RL) (b:=((v,s),(u,t))) ⟨h0,hd0⟩ keeps_l:Dat RL S w).1.1 (given_ (R:=RL) (b:=((v,s),(u,t))) ⟨h0,hd0⟩ keeps_l:Dat RL S w).1.2.1])∧true=true∧∀ (y2:Dat RL S w),let k7:=writeW y2.1.2.2.1.2 y2.1.2.2.2.2;let k8:=decide ((y2.1.2.2.1.2.ws.length:Int) > 0);let k9:=jc y2.1.2.2.1.1 y2.1.2.2.1.2;let k10:=dc y2.1.2.2.2.1 y2.1.2.2.2.2;(right y2.1.2.2.1.2=true∧rightB y2.1.2.2.2.2=true∧∃ k:Nat,y2.1.2.2.1.2.ws.length≤k∧commitA 33 s t=commitA k y2.1.2.2.1.2 y2.1.2.2.2.2)→∀ τ4:Nat→Value,(k8=true→GivesM Tryz.prog w [poolF y2.1.1 y2.1.2.1] 37 #[.agg k9,.agg k10] (Dat (RW k7) (Un S y2.1.2.1) y2.1.1) (fun x=>.tuple #[.agg (jc x.1.2.2.1 (k7.1)),.agg (dc x.1.2.2.2 (k7.2.1)),.int .i64 (k7.2.2)]) (fun x=>[poolF x.1.1 x.1.2.1])∧∀ x6:Dat (RW k7) (Un S y2.1.2.1) y2.1.1,let k11:List Fact:=[poolF x6.1.1 x6.1.2.1,poolF y2.1.1 y2.1.2.1];((!decide ((k7.2.2)=0))=true→∃ x:Jv × Dv,(.tuple #[.agg (jc x6.1.2.2.1 (k7.1)),.agg (dc x6.1.2.2.2 (k7.2.1)),.int .i64 (k7.2.2)]:Value) = .tuple #[.agg (jc x.1 (commitL s t).1),.agg (dc x.2 (commitL s t).2.1),.int .i64 (commitL s t).2.2]∧Concl w k11 (fun w'=>InJ w' (Nw S w w') x.1 (commitL s t).1∧InD w' (Nw S w w') x.2 (commitL s t).2.1))∧((!decide ((k7.2.2)=0))=false→∃ x' : Dat RL S w,(right x'.1.2.2.1.2=true∧rightB x'.1.2.2.2.2=true∧∃ k:Nat,x'.1.2.2.1.2.ws.length≤k∧commitA 33 s t=commitA k x'.1.2.2.1.2 x'.1.2.2.2.2)∧(x'.1.2.2.1.2.ws.length < y2.1.2.2.1.2.ws.length)∧(k5=[.pointer k2,.pointer k3,.pointer k4,.pointer k6]∧([some ⟨g3,0,k1,.own 27⟩,some ⟨g2,0,k0,.own 24⟩,some ⟨g1,0,(dc x6.1.2.2.2 (k7.2.1)),.own 27⟩,some ⟨g0,0,(jc x6.1.2.2.1 (k7.1)),.own 24⟩]:List (Option Blk))=[some ⟨g3,0,k1,.own 27⟩,some ⟨g2,0,k0,.own 24⟩,some ⟨g1,0,#[.slice x'.1.2.2.2.1.A x'.1.2.2.2.2.files.length x'.1.2.2.2.1.c,.int .i64 x'.1.2.2.2.2.room,.int .i64 x'.1.2.2.2.2.fuse,.bool x'.1.2.2.2.2.down],.own 27⟩,some ⟨g0,0,#[.int .i64 x'.1.2.2.1.2.e,.int .i64 x'.1.2.2.1.2.n,.int .i64 x'.1.2.2.1.2.u,.int .i64 x'.1.2.2.1.2.g,.int .i64 x'.1.2.2.1.2.c,.slice x'.1.2.2.1.1.A x'.1.2.2.1.2.ws.length x'.1.2.2.1.1.c],.own 24⟩]∧Turns w k11 [poolF x'.1.1 x'.1.2.1])∧true=true))∧(k8=false→∃ x:Jv × Dv,(.tuple #[.agg k9,.agg k10,.int .i64 0]:Value) = .tuple #[.agg (jc x.1 (commitL s t).1),.agg (dc x.2 (commitL s t).2.1),.int .i64 (commitL s t).2.2]∧Concl w [poolF y2.1.1 y2.1.2.1] (fun w'=>InJ w' (Nw S w w') x.1 (commitL s t).1∧InD w' (Nw S w w') x.2 (commitL s t).2.1)))∧((fitsL s t)=false→∃ x:Jv × Dv,(.tuple #[.agg (jc v s),.agg (dc u t),.int .i64 1]:Value) = .tuple #[.agg (jc x.1 (commitL s t).1),.agg (dc x.2 (commitL s t).2.1),.int .i64 (commitL s t).2.2]∧Concl w [] (fun w'=>InJ w' (Nw S w w') x.1 (commitL s t).1∧InD w' (Nw S w w') x.2 (commitL s t).2.1))) Tryz.func16 (by kernel_rfl)
 (fun g0=>fun g1=>fun g2=>fun g3=>⟨(fun w1 hw _=>v_fits v s u t w1 (h.later hw) (hd.later hw) hs (var_later ht hw) (ev_later he hw)),fun h1=>⟨(fun _ _ _=>news_pool0),(commit_start (right_of_fits h1) (rightB_of_fits h1)),⟨rfl,rfl,(turns_sub (.cons_cons _ (List.nil_sublist _)))⟩,rfl,fun y2 I3 τ4=>⟨fun h5=>have h5:0 < (y2.1.2.2.1.2.ws.length:Int):=(by simpa using h5)
⟨(g_written (fixed_next (fixed_low hS) y2 (i:=0) rfl) (fun w1 hw ha=>((dat_in keeps_l (fixed_low hS) y2 (i:=0) rfl w1 hw ha).1)) (fun w1 hw ha=>((dat_in keeps_l (fixed_low hS) y2 (i:=0) rfl w1 hw ha).2)) I3.1 I3.2.1 (ws_ne h5) ht),fun x6=>⟨fun h7=>have h7:¬ ((writeW y2.1.2.2.1.2 y2.1.2.2.2.2).2.2)=0:=(by simpa using h7)
(q_jd (c_err h1 I3 (ws_ne h5) h7) (fun w1 hb ha hy=>(dat_new (keeps_w (writeW y2.1.2.2.1.2 y2.1.2.2.2.2)) (fixed_next (fixed_low hS) y2 (i:=1) rfl) x6 (i:=0) rfl hb ha hy (new_un (i:=1) rfl hy new_base)).1) (fun w1 hb ha hy=>(dat_new (keeps_w (writeW y2.1.2.2.1.2 y2.1.2.2.2.2)) (fixed_next (fixed_low hS) y2 (i:=1) rfl) x6 (i:=0) rfl hb ha hy (new_un (i:=1) rfl hy new_base)).2)),
 fun h7=>have h7:((writeW y2.1.2.2.1.2 y2.1.2.2.2.2).2.2)=0:=(by simpa using h7)
⟨(nextL y2 (writeW y2.1.2.2.1.2 y2.1.2.2.2.2) x6:Dat RL S w),(commit_step I3 (ws_ne h5) h7),(commit_less I3 (ws_ne h5) h7),⟨rfl,rfl,(turns_glue keeps_l y2 (keeps_w (writeW y2.1.2.2.1.2 y2.1.2.2.2.2)) x6)⟩,rfl⟩⟩⟩,
 fun h5=>have h5:¬ 0 < (y2.1.2.2.1.2.ws.length:Int):=(by simpa using h5)
(q_jd (c_end h1 I3 (by omega)) (fun w1 hb ha hy=>(dat_new keeps_l (fixed_low hS) y2 (i:=0) rfl hb ha hy new_base).1) (fun w1 hb ha hy=>(dat_new keeps_l (fixed_low hS) y2 (i:=0) rfl hb ha hy new_base).2))⟩⟩,
 fun h1=>(q_jd (c_no h1) (fun w1 hb ha hy=>(h0.keep (low_alike hS hb) (fun _ h=>.inl h))) (fun w1 hb ha hy=>(hd0.keep (low_alike hS hb) (fun _ h=>.inl h))))⟩)
end Go.Proofs.YtalhdalinpdanaaGreatDoor.wal
