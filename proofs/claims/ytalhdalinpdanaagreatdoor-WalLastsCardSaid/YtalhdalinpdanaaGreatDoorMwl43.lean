/-
  WalI9
-/
import Derived.Test.YtalhdalinpdanaaGreatDoorMwl42
set_option linter.unusedVariables false
set_option linter.unusedSimpArgs false
namespace Go.Proofs.YtalhdalinpdanaaGreatDoor.wal
set_option maxRecDepth 20000
open Go.RowKit Go.Shelf Go.Proofs.YtalhdalinpdanaaGreatDoor Go.Proofs.YtalhdalinpdanaaGreatDoor.frame Go.Proofs.YtalhdalinpdanaaGreatDoor.disk
attribute [local go_sem] Oper.semAt_some
def remA:DiskD→List Int→DiskD × Int
 |d,[]=>(d,0)
 |d,n :: r=>if (removeD d (nameV n)).2=0 then remA (removeD d (nameV n)).1 r else removeD d (nameV n)
def removedA (d:DiskD) (a:Int):DiskD × Int:=remA d (aboveL a (segs d))
theorem rem_snoc {n:Int} {t:DiskD} : ∀ {l:List Int} {d:DiskD},remA d l=(t,0)→remA d (l++[n])=removeD t (nameV n)
 | [],d,h=>by
  obtain rfl:d=t:=by simpa [remA] using h
  show (if _ then _ else _)=_
  split
  ·rename_i h0;exact Prod.ext rfl h0.symm
  ·rfl
 |m :: l,d,h=>by
  rw [List.cons_append,remA]
  rw [remA] at h
  split at h
  ·rename_i h0
   rw [if_pos h0];exact rem_snoc h
  ·rename_i h0
   rw [h] at h0;exact absurd rfl h0
theorem rem_stop {t:DiskD} {e:Int} (he:e≠0):∀ {l m:List Int} {d:DiskD},remA d l=(t,e)→l <+: m→remA d m=(t,e)
 | [],m,d,h,_=>absurd (congrArg Prod.snd h).symm he
 |n :: l,m,d,h,hp=>by
  obtain ⟨r,rfl⟩:=hp
  rw [List.cons_append,remA]
  rw [remA] at h
  split at h
  ·rename_i h0
   rw [if_pos h0];exact rem_stop he h ⟨r,rfl⟩
  ·rename_i h0
   rw [if_neg h0];exact h
theorem rem_right:∀ {l:List Int} {d:DiskD},rightB d=true→rightB (remA d l).1=true
 | [],d,h=>h
 |n :: l,d,h=>by
  rw [remA]
  split
  ·exact rem_right (right_remove h)
  ·exact right_remove h
theorem keeps_below {W W' : World} (h:Below W.heap.size W W'):KeepsOthers W W' :=
 ⟨h.size,fun k o hk _=>(h.block k (Array.getElem?_eq_some_iff.1 hk).1).trans hk⟩
theorem keeps_set4 (W:World) (g:Nat) (v0 v1 v2 v3:Value):KeepsOthers W ((((W.setCell ⟨g,0,none⟩ v0).setCell ⟨g,1,none⟩ v1).setCell ⟨g,2,none⟩ v2).setCell ⟨g,3,none⟩ v3) :=
 (((KeepsOthers.setCell _ _ _).trans (KeepsOthers.setCell _ _ _)).trans (KeepsOthers.setCell _ _ _)).trans (KeepsOthers.setCell _ _ _)
theorem block_kept {W W' : World} {row:Option Nat} {g:Nat} {cs:Array Value} {T:TypeId} {sp:Nat × Nat} (h:W.heap[g]?=some (.cells cs T sp)) (hg:W.grownBy W' row) (hr:∀ r,row=some r→∃ o:Obj,W.heap[r]?=some o∧o.isCells=false):W'.heap[g]?=some (.cells cs T sp):=by
 refine (hg.block g (Array.getElem?_eq_some_iff.1 h).1 ?_).trans h
 intro e
 obtain ⟨o,ho,hc⟩:=hr g e.symm
 rw [h] at ho
 cases ho
 cases hc
theorem v_from {A:Option Addr} {n c:Nat} {a:Int} (w:World):Calls Tryz.prog 94 #[.slice A n c,.int .i64 a] w fun e w'=>e = .returned (.func (.func 126) #[] #[.pointer (some ⟨w.heap.size,0,none⟩),.pointer (some ⟨w.heap.size+1,0,none⟩)])∧Aside (w'=(w.alloc (.cells #[.slice A n c] 47)).alloc (.cells #[.int .i64 a] 2)):=by
 go_enter Tryz.func94,Tryz.ntmps94
 go_wp2
 go_ret
 exact ⟨rfl,rfl⟩
theorem frozen4 {W:World} {g:Nat} {v0 v1 v2 v3:Value} {T:TypeId} (h:W.heap[g]?=some (.cells #[v0,v1,v2,v3] T (0,0))):W.frozen? ⟨g,0,none⟩=false∧W.frozen? ⟨g,1,none⟩=false∧W.frozen? ⟨g,2,none⟩=false∧W.frozen? ⟨g,3,none⟩=false :=
 ⟨(block_cell h 0 _ rfl).2,(block_cell h 1 _ rfl).2,(block_cell h 2 _ rfl).2,(block_cell h 3 _ rfl).2⟩
theorem cells4 {W:World} {g:Nat} {v0 v1 v2 v3:Value} {T:TypeId} (h:W.heap[g]?=some (.cells #[v0,v1,v2,v3] T (0,0))):W.cell? ⟨g,0,none⟩=some v0∧W.cell? ⟨g,1,none⟩=some v1∧W.cell? ⟨g,2,none⟩=some v2∧W.cell? ⟨g,3,none⟩=some v3 :=
 ⟨(block_cell h 0 _ rfl).1,(block_cell h 1 _ rfl).1,(block_cell h 2 _ rfl).1,(block_cell h 3 _ rfl).1⟩
abbrev Stay (S:Nat→Prop) (w w' : World):Prop := ∀ b o c,S b→w.cell? ⟨b,o,none⟩=some c→w'.cell? ⟨b,o,none⟩=some c
theorem ints_stay {k:IntKind} {w w' : World} {S S' : Nat→Prop} {A:Option Addr} {xs:List Int} (h:IntsIn k w S A xs) (hc:Stay S w w') (hS:∀ b,S b→S' b):IntsIn k w' S' A xs :=
 ⟨h.1,fun hn=>by
  obtain ⟨b,off,e,hlt,hcell⟩:=h.2 hn
  exact ⟨b,off,e,hS b hlt,fun j hj=>hc b _ _ hlt (hcell j hj)⟩⟩
theorem raw_stay {w w' : World} {S S' : Nat→Prop} {A:Option Addr} {rs:List RawF} (h:Elems rdRaw 3 w S A rs) (hc:Stay S w w') (hS:∀ b,S b→S' b):Elems rdRaw 3 w' S' A rs:=fun h0=>by
 obtain ⟨b,off,e,hb,h1⟩:=h h0
 refine ⟨b,off,e,hS b hb,fun j x hx=>?_⟩
 obtain ⟨cs,h2,h3,h4,h5,h6,h7⟩:=h1 j x hx
 exact ⟨cs,h2,fun i c hi=>hc _ _ _ hb (h3 i c hi),h4,h5,ints_stay h6 hc hS,h7⟩
theorem InD.stay {w w' : World} {S S' : Nat→Prop} {v:Dv} {s:DiskD} (h:InD w S v s) (hc:Stay S w w') (hS:∀ b,S b→S' b):InD w' S' v s:=⟨raw_stay h.f hc hS,h.m,h.l,h.c,h.r,h.u⟩
theorem nw_more {S:Nat→Prop} {w W W' : World} (h:W.heap.size≤W'.heap.size):∀ k,Nw S w W k→Nw S w W' k:=fun k hk=>hk.elim .inl (fun h'=>.inr ⟨h'.1,Nat.lt_of_lt_of_le h'.2 h⟩)
structure RemI (w w2:World) (S:Nat→Prop) (t0:DiskD) (pre:List Int) (u:Dv) (t:DiskD) (e:Int) (g:Nat) (W:World):Prop where
 r:remA t0 pre=(t,e)
 d:InD W (Nw S w2 W) u t
 b0:W.heap[g]?=some (.cells #[.slice u.A t.files.length u.c,.int .i64 t.room,.int .i64 t.fuse,.bool t.down] 27 (0,0))
 b:Below w.heap.size w W
 s:w2.heap.size≤W.heap.size
abbrev RemR (w:World) (W:World):Prop:=(∃ v0 v1 v2 v3,W.heap[w.heap.size+1]?=some (.cells #[v0,v1,v2,v3] 27 (0,0)))∧∃ v,W.heap[w.heap.size+1+1]?=some (.cells #[v] 31 (0,0))
theorem RemI.turn {w w2:World} {S:Nat→Prop} {t0:DiskD} {pre:List Int} {u:Dv} {t:DiskD} {e:Int} {g:Nat} {W W' : World} {row:Option Nat} (h:RemI w w2 S t0 pre u t e g W) (hw:w.heap.size≤w2.heap.size) (hg:W.grownBy W' row) (hr:∀ r,row=some r→w2.heap.size≤r∧∃ o:Obj,W.heap[r]?=some o∧o.isCells=false):RemI w w2 S t0 pre u t e g W' :=
 ⟨h.r,h.d.stay (fun b o c _ hc=>cell_kept hc hg (fun r e=>(hr r e).2)) (nw_more hg.size),block_kept h.b0 hg (fun r e=>(hr r e).2),h.b.grown hg h.b.size (fun k e=>by have:=(hr k e).1;omega),Nat.le_trans h.s hg.size⟩
theorem RemR.turn {w W W' : World} {row:Option Nat} (h:RemR w W) (hg:W.grownBy W' row) (hr:∀ r,row=some r→∃ o:Obj,W.heap[r]?=some o∧o.isCells=false):RemR w W':=by
 obtain ⟨⟨v0,v1,v2,v3,h1⟩,v,h2⟩:=h
 exact ⟨⟨v0,v1,v2,v3,block_kept h1 hg hr⟩,v,block_kept h2 hg hr⟩
theorem RemR.later {w W w5 w6:World} (h:RemR w W) (hs:w.heap.size+3≤W.heap.size) (h5:Below W.heap.size W w5) (h6:Below w5.heap.size w5 w6):RemR w w6:=by
 obtain ⟨⟨v0,v1,v2,v3,h1⟩,v,h2⟩:=h
 have hs5:=h5.size
 exact ⟨⟨v0,v1,v2,v3,(h6.block _ (by omega)).trans ((h5.block _ (by omega)).trans h1)⟩,v,(h6.block _ (by omega)).trans ((h5.block _ (by omega)).trans h2)⟩
theorem RemI.out {w w2 W:World} {S:Nat→Prop} {t0 t:DiskD} {pre:List Int} {e:Int} {u:Dv} {v0 v1 v2 v3:Value} (h:RemI w w2 S t0 pre u t e w.heap.size W) (hw:w.heap.size+3≤w2.heap.size) (hS:∀ k,S k→k < w.heap.size) (hb:W.heap[w.heap.size+1]?=some (.cells #[v0,v1,v2,v3] 27 (0,0))) (v' : Value) :
  RemI w w2 S t0 pre u t e (w.heap.size+1) (((((W.setCell ⟨w.heap.size+1,0,none⟩ (.slice u.A t.files.length u.c)).setCell ⟨w.heap.size+1,1,none⟩ (.int .i64 t.room)).setCell ⟨w.heap.size+1,2,none⟩ (.int .i64 t.fuse)).setCell ⟨w.heap.size+1,3,none⟩ (.bool t.down)).setCell ⟨w.heap.size+1+1,0,none⟩ v'):=by
 have hs:=h.s
 refine ⟨h.r,h.d.keep (fun b o hb=>World.cell?_of_block ((Below.heap_setCell _ _ _ _ ?_).trans (heap_set4 _ _ _ _ ?_))) (nw_more (by rw [World.size_setCell,size_set4];exact Nat.le_refl _)),(Below.heap_setCell _ _ _ _ (by show w.heap.size+1≠w.heap.size+1+1;omega)).trans (heap_set4_self _ _ _ _ hb),(below_set4 h.b (by omega) _ _ _ _).setCell (p:=⟨w.heap.size+1+1,0,none⟩) (by show _≤w.heap.size+1+1;omega) _,by rw [World.size_setCell,size_set4];exact hs⟩
 all_goals
  rcases hb with hb | hb
  ·have:=hS b hb;(first | show b≠w.heap.size+1+1 | show b≠w.heap.size+1);omega
  ·(first | show b≠w.heap.size+1+1 | show b≠w.heap.size+1);omega
theorem RemI.next {w w2 W w5 w6:World} {S:Nat→Prop} {t0 t1 t2:DiskD} {pre:List Int} {x e2:Int} {u1 u2:Dv} (h:RemI w w2 S t0 pre u1 t1 0 w.heap.size W) (hw:w.heap.size < w2.heap.size) (hS:∀ k,S k→k < w.heap.size) (hr:removeD t1 (nameV x)=(t2,e2)) (h5:Below W.heap.size W w5) (h6:Below w5.heap.size w5 w6)
  (hd:InD w6 (fun k=>Nw S w2 W k∨(w5.heap.size≤k∧k < w6.heap.size)) u2 t2):RemI w w2 S t0 (pre++[x]) u2 t2 e2 w.heap.size ((((w6.setCell ⟨w.heap.size,0,none⟩ (.slice u2.A t2.files.length u2.c)).setCell ⟨w.heap.size,1,none⟩ (.int .i64 t2.room)).setCell ⟨w.heap.size,2,none⟩ (.int .i64 t2.fuse)).setCell ⟨w.heap.size,3,none⟩ (.bool t2.down)):=by
 have hs5:=h5.size
 have hs6:=h6.size
 have hs:=h.s
 have hb6:=(h6.block _ (by omega)).trans ((h5.block w.heap.size (by omega)).trans h.b0)
 refine ⟨by rw [rem_snoc h.r,hr],hd.keep (fun b o hb=>World.cell?_of_block (heap_set4 _ _ _ _ ?_)) (fun k hk=>?_),heap_set4_self _ _ _ _ hb6,below_set4 ((h.b.trans (h5.mono (by omega))).trans (h6.mono (by omega))) (Nat.le_refl _) _ _ _ _,by rw [size_set4];omega⟩
 ·rcases hb with (hb | hb) | hb
  ·have:=hS b hb;show b≠w.heap.size;omega
  ·show b≠w.heap.size;omega
  ·show b≠w.heap.size;omega
 ·rw [Nw,size_set4]
  rcases hk with (hk | hk) | hk
  ·exact .inl hk
  ·exact .inr ⟨hk.1,by omega⟩
  ·exact .inr ⟨by omega,hk.2⟩
set_option maxRecDepth 1000000 in
set_option maxHeartbeats 16000000 in
theorem v_removed (u : Dv) (t : DiskD) (a : Int) (S : Nat → Prop) (w : World) (hd0 : InD w S u t) (hS : ∀ k, S k → k < w.heap.size) (hs : shortB t.files = true) (ht : Lib.TabIs Tryz.prog w "internal/strconv.uint64pow10" .u64 Lib.pow10Tab) (he : ErrVar w) (ha : inI a) :
  Calls Tryz.prog 53 #[.agg (dc u t),.int .i64 a] w (RetD S w (removedA t a)):=by
 refine (callsIn_wide (n:=6)).1 ?_
 refine callsIn_of_wp_marks Tryz.func53 rfl trivial ?_ rfl
 simp only [Tryz.ntmps53,List.size_toArray,List.length_cons,List.length_nil,Nat.reduceAdd,Nat.reduceSub,Array.replicate_succ,Array.replicate_zero,List.push_toArray,List.append_toArray,List.nil_append,List.cons_append]
 have hmx:Tryz.prog.follows .mixedOrders=true:=by kernel_rfl
 have hdl:=hd0.all hS
 obtain ⟨wA,hwA⟩:∃ W,Aside (W=((w.alloc (.cells (dc u t) 27)).alloc (.cells #[.slice none 0 0,.int .i64 0,.int .i64 0,.bool false] 27)).alloc (.cells #[.int .i64 0] 31)):=⟨_,rfl⟩
 have hBA:Below w.heap.size w wA:=by rw [hwA.out];exact (((Below.refl _ w).alloc (Nat.le_refl _) _).alloc (by simp) _).alloc (by simp;omega) _
 have hszA:wA.heap.size=w.heap.size+3:=by rw [hwA.out];simp
 have hA0:wA.heap[w.heap.size]?=some (.cells (dc u t) 27 (0,0)):=by
  rw [hwA.out];exact (Below.heap_alloc _ _ _ (by simp;omega)).trans ((Below.heap_alloc _ _ _ (by simp)).trans (World.alloc_heap_new _ _))
 have hA1:wA.heap[w.heap.size+1]?=some (.cells #[.slice none 0 0,.int .i64 0,.int .i64 0,.bool false] 27 (0,0)):=by
  rw [hwA.out]
  refine (Below.heap_alloc _ _ _ (by simp)).trans ?_
  have:=World.alloc_heap_new (w.alloc (.cells (dc u t) 27)) (.cells #[.slice none 0 0,.int .i64 0,.int .i64 0,.bool false] 27)
  rwa [World.size_alloc] at this
 have hA2:wA.heap[w.heap.size+1+1]?=some (.cells #[.int .i64 0] 31 (0,0)):=by
  rw [hwA.out]
  have:=World.alloc_heap_new ((w.alloc (.cells (dc u t) 27)).alloc (.cells #[.slice none 0 0,.int .i64 0,.int .i64 0,.bool false] 27)) (.cells #[.int .i64 0] 31)
  rwa [World.size_alloc,World.size_alloc] at this
 unfold dc at hwA hA0 ⊢
 gi_wp2_with first
  |(refine ⟨trivial,?_⟩;gi_at_call 21;rw [← hwA.out];refine (callsIn_wide.2 (v_segments u t wA (hdl.later hBA) hs (var_later ht hBA) (ev_later he hBA))).mono ?_;rintro e w1 ⟨⟨A,c⟩,rfl,hB1,hN1⟩)
  |(refine ⟨trivial,?_⟩;gi_at_call 94;refine (callsIn_wide.2 (v_from w1)).mono ?_;rintro e w2 ⟨rfl,hw2⟩)
 have hsz1:=hB1.size
 have hB12:Below w1.heap.size w1 w2:=by rw [hw2.out];exact ((Below.refl _ w1).alloc (Nat.le_refl _) _).alloc (by simp) _
 have hsz2:w2.heap.size=w1.heap.size+2:=by rw [hw2.out];simp
 have hBA2:Below wA.heap.size wA w2:=hB1.trans (hB12.mono hB1.size)
 have hB2:Below w.heap.size w w2:=hBA.trans (hBA2.mono hBA.size)
 obtain ⟨q,hq⟩:∃ q:Nat→Prop,Aside (q=fun k=>wA.heap.size≤k∧k < w2.heap.size):=⟨_,rfl⟩
 have hcl:w2.cell? ⟨w1.heap.size,0,none⟩=some (.slice A (segs t).length c):=by
  have h:=(Below.heap_alloc (w1.alloc (.cells #[.slice A (segs t).length c] 47)) (.cells #[.int .i64 a] 2) w1.heap.size (by simp)).trans (World.alloc_heap_new _ _)
  rw [← hw2.out] at h
  exact (block_cell h 0 _ rfl).1
 have hca:w2.cell? ⟨w1.heap.size+1,0,none⟩=some (.int .i64 a):=by
  have h:=World.alloc_heap_new (w1.alloc (.cells #[.slice A (segs t).length c] 47)) (.cells #[.int .i64 a] 2)
  rw [← hw2.out,World.size_alloc] at h
  exact (block_cell h 0 _ rfl).1
 have hrow:Elems (rdInt .i64) 1 w2 q A (segs t):=by
  have h:OwnElems (rdInt .i64) 1 w1 0 2 (fun _=>False) A (segs t).length c (segs t):=All_iff.1 hN1.all _ (List.mem_singleton.2 rfl)
  refine (own_new (keeps_int _) (by decide) h (fun k hk=>?_) (fun h=>h)).keep (keeps_int _) (below_alikeS hB12 (fun b hb=>hb.2)) (fun b hb=>?_) (S:=fun k=>wA.heap.size≤k∧k < w1.heap.size)
  ·have:=hN1.young _ (List.mem_singleton.2 rfl) k hk
   exact ⟨this.1.elim (fun h=>h.elim) id,this.2⟩
  ·rw [hq.out];exact ⟨hb.1,by omega⟩
 have hq1:∀ k,q k→wA.heap.size≤k∧k < w2.heap.size:=fun k hk=>by rw [hq.out] at hk;exact hk
 have hi0:∀ x ∈ segs t,inI x:=fun x hx=>by have:=segs_rng t x hx;unfold inI;omega
 have hstart:RemI w w2 S t [] u t 0 w.heap.size w2:=⟨rfl,hd0.keep (fun b o hb=>hB2.cell (p:=⟨b,o,none⟩) (hS b hb)) (fun _ h=>.inl h),(hBA2.block _ (by omega)).trans hA0,hB2,Nat.le_refl _⟩
 have hstart2:RemR w w2:=⟨⟨_,_,_,_,(hBA2.block _ (by omega)).trans hA1⟩,_,(hBA2.block _ (by omega)).trans hA2⟩
 clear hN1 hA0 hA1 hA2
 refine wpIn_rangeFunc_ownF (F:=Fence.wide) (n:=6) rfl (by decide) (gf:=126) (lb:=#[.pointer (some ⟨w1.heap.size,0,none⟩),.pointer (some ⟨w1.heap.size+1,0,none⟩)]) rfl trivial (enters_of Tryz.func126 (by kernel_rfl) rfl)
  (from_stops 5 (by decide) w1.heap.size (w1.heap.size+1) q A c (segs t) a (segs_len hs) (by rw [hq.out];omega) (by rw [hq.out];omega) hi0 w2 (fun k hk=>(hq1 k hk).2) hcl hca hrow)
  (fun h1 h2 k hk=>(h2 k hk).trans (h1 k hk)) (fun W l o o' hl ho _ _ k hk=>World.putObj_heap_other (by have:=(hq1 k hk).2;omega)) (Below.refl _ _) (fun _=>rfl)
  (fun pre W=>(∃ u1 t1,RemI w w2 S t (pre.map (·.1)) u1 t1 0 w.heap.size W)∧RemR w W)
  (fun c pre W=>c = .ret∧∃ u1 t1 e1,e1≠0∧RemI w w2 S t (pre.map (·.1)) u1 t1 e1 (w.heap.size+1) W∧W.heap[w.heap.size+1+1]?=some (.cells #[.int .i64 e1] 31 (0,0)))
  (fun s W W' row hs hg hr=>⟨by obtain ⟨⟨u1,t1,h⟩,_⟩:=hs;exact ⟨u1,t1,h.turn hB2.size hg hr⟩,hs.2.turn hg (fun r e=>(hr r e).2)⟩)
  (fun c s W W' row hs hg hr=>by
   obtain ⟨rfl,u1,t1,e1,h0,h,h2⟩:=hs
   exact ⟨rfl,u1,t1,e1,h0,h.turn hB2.size hg hr,block_kept h2 hg (fun r e=>(hr r e).2)⟩)
  ⟨⟨u,t,hstart⟩,hstart2⟩
  (fun x=>{ tmps:=#[.agg #[.slice u.A t.files.length u.c,.int .i64 t.room,.int .i64 t.fuse,.bool t.down],.int .i64 a,.pointer (some ⟨w.heap.size,0,none⟩),undef,.pointer (some ⟨w.heap.size+1,0,none⟩),.pointer (some ⟨w.heap.size+1+1,0,none⟩),.int .i64 x.1,undef,.agg #[.slice u.A t.files.length u.c,.int .i64 t.room,.int .i64 t.fuse,.bool t.down],.slice A (segs t).length c,.int .i64 a,.func (.func 126) #[] #[.pointer (some ⟨w1.heap.size,0,none⟩),.pointer (some ⟨w1.heap.size+1,0,none⟩)],.int .i64 x.1,undef,undef,undef,undef,undef,undef,undef,undef,undef,undef,undef,undef],defers:=[] }) ?assign ?body ?done ?stop
 case assign =>
  intro l x W K hK
  gi_wp2
  exact hK
 case body =>
  rintro l pre x W ⟨⟨u1,t1,hI⟩,hR⟩ hlen
  have hb:=hI.b0
  have hsW:=hI.s
  have hlt0:w.heap.size < W.heap.size:=by omega
  have hr1:rightB t1=true:=by
   have:=rem_right (l:=pre.map (·.1)) (d:=t) (by
    by_cases hr:rightB t=true
    ·exact hr
    ·have:segs t=[]:=by unfold segs;rw [if_neg hr]
     rw [this] at hlen;cases hlen)
   rw [hI.r] at this;exact this
  have hs1:=right_short hr1
  obtain ⟨t2,e2,hr⟩:∃ t2 e2,Aside (removeD t1 (nameV x.1)=(t2,e2)):=⟨_,_,rfl⟩
  have hP:∀ k,Nw S w2 W k→k < W.heap.size:=fun k hk=>hk.elim (fun h=>by have:=hS k h;omega) (fun h=>h.2)
  gi_wp2
  refine wpIn_region_any hmx ?_
  change wpAnyIn _ _ _ _ _ _ _ _ _ (World.drew _)
  obtain ⟨W1,hW1⟩:∃ W1,Aside (W1=W.drew):=⟨_,rfl⟩
  rw [← hW1.out]
  have hWW1:Below W.heap.size W W1:=by rw [hW1.out];exact (Below.refl _ W).drew
  have hsW1:W1.heap.size=W.heap.size:=by rw [hW1.out];rfl
  have hlt:w.heap.size < W1.heap.size:=by omega
  have hB1:Below w.heap.size w W1:=hI.b.trans (hWW1.mono (by omega))
  have hb1:=(hWW1.block _ hlt0).trans hb
  obtain ⟨c0,c1,c2,c3⟩:=cells4 hb1
  have hd1:InD W1 (Nw S w2 W) u1 t1:=hI.d.keep (low_alike hP hWW1) (fun _ h=>h)
  have hP1:∀ k,Nw S w2 W k→k < W1.heap.size:=fun k hk=>by rw [hsW1];exact hP k hk
  have hsW' : w.heap.size+3≤W.heap.size:=by omega
  by_cases he2:e2=0
  ·subst he2
   refine wpAnyIn_ready (rs:=[0,1]) (by kernel_rfl) (by simp) ?_
   refine AllReadyIn.cons rfl (fun K hK=>?_) (AllReadyIn.cons rfl (fun K hK=>?_) (AllReadyIn.nil))
   ·go_simp
    refine hK _ _ ?_
    clear hK K
    refine wpAnyIn_ready (rs:=[1]) (by kernel_rfl) (by simp) ?_
    refine AllReadyIn.cons rfl (fun K hK=>?_) (AllReadyIn.nil)
    go_simp
    refine hK _ _ ?_
    clear hK K
    refine wpAnyIn_ready (rs:=[2]) (by kernel_rfl) (by simp) ?_
    refine AllReadyIn.cons rfl (fun K hK=>?_) (AllReadyIn.nil)
    go_simp
    gi_wp2_with (refine ⟨trivial,?_⟩;gi_at_call 24;refine (CallsIn.inRound l (callsIn_wide.2 (n_name (D:=[]) x.2 ht W1 hB1 trivial))).mono ?_;rintro e w5 ⟨rfl,hB5⟩;have f0:=(hB5.cell (p:=⟨w.heap.size,0,none⟩) hlt).trans c0;have f1:=(hB5.cell (p:=⟨w.heap.size,1,none⟩) hlt).trans c1;have f2:=(hB5.cell (p:=⟨w.heap.size,2,none⟩) hlt).trans c2;have f3:=(hB5.cell (p:=⟨w.heap.size,3,none⟩) hlt).trans c3)
    refine wpAnyIn_ready (rs:=[3]) (by kernel_rfl) (by simp) ?_
    refine AllReadyIn.cons rfl (fun K hK=>?_) (AllReadyIn.nil)
    go_simp
    gi_wp2_with (refine ⟨trivial,?_⟩;gi_at_call 42;refine (CallsIn.inRound l (callsIn_wide.2 (d_remove (fun k hk=>Nat.lt_of_lt_of_le (hP1 k hk) hB5.size) (hd1.keep (low_alike hP1 hB5) (fun _ h=>h)) hs1 (nameV_100 x.1)))).mono ?_;rintro e w6 ⟨u2,he6,hB6,hd6⟩;simp only [hr.out,dc] at he6 hd6;subst he6;have hW5:=hWW1.trans (hB5.mono (Nat.le_of_eq hsW1.symm));have hb6:=(hB6.block _ (Nat.lt_of_lt_of_le hlt hB5.size)).trans ((hB5.block _ hlt).trans hb1);obtain ⟨g0,g1,g2,g3⟩:=cells4 hb6;obtain ⟨z0,z1,z2,z3⟩:=frozen4 hb6;have hR6:=hR.later hsW' hW5 hB6;obtain ⟨⟨v0,v1,v2,v3,hb7⟩,v4,hb8⟩:=hR6;obtain ⟨k0,k1,k2,k3⟩:=cells4 hb7;obtain ⟨y0,y1,y2,y3⟩:=frozen4 hb7;have m0:=(block_cell hb8 0 _ rfl).1;have n0:=(block_cell hb8 0 _ rfl).2;have hN:=hI.next (by omega) hS hr.out hW5 hB6 hd6)
    refine wpAnyIn_ready (rs:=[4]) (by kernel_rfl) (by simp) ?_
    refine AllReadyIn.cons rfl (fun K hK=>?_) (AllReadyIn.nil)
    go_simp
    refine hK _ _ ?_
    clear hK K
    refine wpAnyIn_ready (rs:=[5,6]) (by kernel_rfl) (by simp) ?_
    refine AllReadyIn.cons rfl (fun K hK=>?_) (AllReadyIn.cons rfl (fun K hK=>?_) (AllReadyIn.nil))
    ·go_simp
     refine hK _ _ ?_
     clear hK K
     refine wpAnyIn_ready (rs:=[6,7]) (by kernel_rfl) (by simp) ?_
     refine AllReadyIn.cons rfl (fun K hK=>?_) (AllReadyIn.cons rfl (fun K hK=>?_) (AllReadyIn.nil))
     ·go_simp
      refine hK _ _ ?_
      clear hK K
      refine wpAnyIn_ready (rs:=[7]) (by kernel_rfl) (by simp) ?_
      refine AllReadyIn.cons rfl (fun K hK=>?_) (AllReadyIn.nil)
      go_simp
      refine hK _ _ ?_
      clear hK K
      refine wpAnyIn_ready (rs:=[8]) (by kernel_rfl) (by simp) ?_
      refine AllReadyIn.cons rfl (fun K hK=>?_) (AllReadyIn.nil)
      go_simp
      refine hK _ _ ?_
      clear hK K
      refine wpAnyIn_done (by kernel_rfl) ?_ _
      gi_wp2
      refine ⟨(keeps_below hW5).trans ((keeps_below hB6).trans (keeps_set4 _ _ _ _ _ _)),fun k hk=>?_,⟨u2,t2,by rw [List.map_append];exact hN⟩,⟨v0,v1,v2,v3,(heap_set4 _ _ _ _ (by omega)).trans hb7⟩,v4,(heap_set4 _ _ _ _ (by omega)).trans hb8⟩
      obtain ⟨hk1,hk2⟩:=hq1 k hk
      have:=hW5.size
      exact (heap_set4 _ _ _ _ (by omega)).trans ((hB6.block k (by omega)).trans (hW5.block k (by omega)))
     ·go_simp
      refine hK _ _ ?_
      clear hK K
      refine wpAnyIn_ready (rs:=[6]) (by kernel_rfl) (by simp) ?_
      refine AllReadyIn.cons rfl (fun K hK=>?_) (AllReadyIn.nil)
      go_simp
      refine hK _ _ ?_
      clear hK K
      refine wpAnyIn_ready (rs:=[8]) (by kernel_rfl) (by simp) ?_
      refine AllReadyIn.cons rfl (fun K hK=>?_) (AllReadyIn.nil)
      go_simp
      refine hK _ _ ?_
      clear hK K
      refine wpAnyIn_done (by kernel_rfl) ?_ _
      gi_wp2
      refine ⟨(keeps_below hW5).trans ((keeps_below hB6).trans (keeps_set4 _ _ _ _ _ _)),fun k hk=>?_,⟨u2,t2,by rw [List.map_append];exact hN⟩,⟨v0,v1,v2,v3,(heap_set4 _ _ _ _ (by omega)).trans hb7⟩,v4,(heap_set4 _ _ _ _ (by omega)).trans hb8⟩
      obtain ⟨hk1,hk2⟩:=hq1 k hk
      have:=hW5.size
      exact (heap_set4 _ _ _ _ (by omega)).trans ((hB6.block k (by omega)).trans (hW5.block k (by omega)))
    ·go_simp
     refine hK _ _ ?_
     clear hK K
     refine wpAnyIn_ready (rs:=[5]) (by kernel_rfl) (by simp) ?_
     refine AllReadyIn.cons rfl (fun K hK=>?_) (AllReadyIn.nil)
     go_simp
     refine hK _ _ ?_
     clear hK K
     refine wpAnyIn_ready (rs:=[7]) (by kernel_rfl) (by simp) ?_
     refine AllReadyIn.cons rfl (fun K hK=>?_) (AllReadyIn.nil)
     go_simp
     refine hK _ _ ?_
     clear hK K
     refine wpAnyIn_ready (rs:=[8]) (by kernel_rfl) (by simp) ?_
     refine AllReadyIn.cons rfl (fun K hK=>?_) (AllReadyIn.nil)
     go_simp
     refine hK _ _ ?_
     clear hK K
     refine wpAnyIn_done (by kernel_rfl) ?_ _
     gi_wp2
     refine ⟨(keeps_below hW5).trans ((keeps_below hB6).trans (keeps_set4 _ _ _ _ _ _)),fun k hk=>?_,⟨u2,t2,by rw [List.map_append];exact hN⟩,⟨v0,v1,v2,v3,(heap_set4 _ _ _ _ (by omega)).trans hb7⟩,v4,(heap_set4 _ _ _ _ (by omega)).trans hb8⟩
     obtain ⟨hk1,hk2⟩:=hq1 k hk
     have:=hW5.size
     exact (heap_set4 _ _ _ _ (by omega)).trans ((hB6.block k (by omega)).trans (hW5.block k (by omega)))
   ·go_simp
    refine hK _ _ ?_
    clear hK K
    refine wpAnyIn_ready (rs:=[0,2]) (by kernel_rfl) (by simp) ?_
    refine AllReadyIn.cons rfl (fun K hK=>?_) (AllReadyIn.cons rfl (fun K hK=>?_) (AllReadyIn.nil))
    ·go_simp
     refine hK _ _ ?_
     clear hK K
     refine wpAnyIn_ready (rs:=[2]) (by kernel_rfl) (by simp) ?_
     refine AllReadyIn.cons rfl (fun K hK=>?_) (AllReadyIn.nil)
     go_simp
     gi_wp2_with (refine ⟨trivial,?_⟩;gi_at_call 24;refine (CallsIn.inRound l (callsIn_wide.2 (n_name (D:=[]) x.2 ht W1 hB1 trivial))).mono ?_;rintro e w5 ⟨rfl,hB5⟩;have f0:=(hB5.cell (p:=⟨w.heap.size,0,none⟩) hlt).trans c0;have f1:=(hB5.cell (p:=⟨w.heap.size,1,none⟩) hlt).trans c1;have f2:=(hB5.cell (p:=⟨w.heap.size,2,none⟩) hlt).trans c2;have f3:=(hB5.cell (p:=⟨w.heap.size,3,none⟩) hlt).trans c3)
     refine wpAnyIn_ready (rs:=[3]) (by kernel_rfl) (by simp) ?_
     refine AllReadyIn.cons rfl (fun K hK=>?_) (AllReadyIn.nil)
     go_simp
     gi_wp2_with (refine ⟨trivial,?_⟩;gi_at_call 42;refine (CallsIn.inRound l (callsIn_wide.2 (d_remove (fun k hk=>Nat.lt_of_lt_of_le (hP1 k hk) hB5.size) (hd1.keep (low_alike hP1 hB5) (fun _ h=>h)) hs1 (nameV_100 x.1)))).mono ?_;rintro e w6 ⟨u2,he6,hB6,hd6⟩;simp only [hr.out,dc] at he6 hd6;subst he6;have hW5:=hWW1.trans (hB5.mono (Nat.le_of_eq hsW1.symm));have hb6:=(hB6.block _ (Nat.lt_of_lt_of_le hlt hB5.size)).trans ((hB5.block _ hlt).trans hb1);obtain ⟨g0,g1,g2,g3⟩:=cells4 hb6;obtain ⟨z0,z1,z2,z3⟩:=frozen4 hb6;have hR6:=hR.later hsW' hW5 hB6;obtain ⟨⟨v0,v1,v2,v3,hb7⟩,v4,hb8⟩:=hR6;obtain ⟨k0,k1,k2,k3⟩:=cells4 hb7;obtain ⟨y0,y1,y2,y3⟩:=frozen4 hb7;have m0:=(block_cell hb8 0 _ rfl).1;have n0:=(block_cell hb8 0 _ rfl).2;have hN:=hI.next (by omega) hS hr.out hW5 hB6 hd6)
     refine wpAnyIn_ready (rs:=[4]) (by kernel_rfl) (by simp) ?_
     refine AllReadyIn.cons rfl (fun K hK=>?_) (AllReadyIn.nil)
     go_simp
     refine hK _ _ ?_
     clear hK K
     refine wpAnyIn_ready (rs:=[5,6]) (by kernel_rfl) (by simp) ?_
     refine AllReadyIn.cons rfl (fun K hK=>?_) (AllReadyIn.cons rfl (fun K hK=>?_) (AllReadyIn.nil))
     ·go_simp
      refine hK _ _ ?_
      clear hK K
      refine wpAnyIn_ready (rs:=[6,7]) (by kernel_rfl) (by simp) ?_
      refine AllReadyIn.cons rfl (fun K hK=>?_) (AllReadyIn.cons rfl (fun K hK=>?_) (AllReadyIn.nil))
      ·go_simp
       refine hK _ _ ?_
       clear hK K
       refine wpAnyIn_ready (rs:=[7]) (by kernel_rfl) (by simp) ?_
       refine AllReadyIn.cons rfl (fun K hK=>?_) (AllReadyIn.nil)
       go_simp
       refine hK _ _ ?_
       clear hK K
       refine wpAnyIn_ready (rs:=[8]) (by kernel_rfl) (by simp) ?_
       refine AllReadyIn.cons rfl (fun K hK=>?_) (AllReadyIn.nil)
       go_simp
       refine hK _ _ ?_
       clear hK K
       refine wpAnyIn_done (by kernel_rfl) ?_ _
       gi_wp2
       refine ⟨(keeps_below hW5).trans ((keeps_below hB6).trans (keeps_set4 _ _ _ _ _ _)),fun k hk=>?_,⟨u2,t2,by rw [List.map_append];exact hN⟩,⟨v0,v1,v2,v3,(heap_set4 _ _ _ _ (by omega)).trans hb7⟩,v4,(heap_set4 _ _ _ _ (by omega)).trans hb8⟩
       obtain ⟨hk1,hk2⟩:=hq1 k hk
       have:=hW5.size
       exact (heap_set4 _ _ _ _ (by omega)).trans ((hB6.block k (by omega)).trans (hW5.block k (by omega)))
      ·go_simp
       refine hK _ _ ?_
       clear hK K
       refine wpAnyIn_ready (rs:=[6]) (by kernel_rfl) (by simp) ?_
       refine AllReadyIn.cons rfl (fun K hK=>?_) (AllReadyIn.nil)
       go_simp
       refine hK _ _ ?_
       clear hK K
       refine wpAnyIn_ready (rs:=[8]) (by kernel_rfl) (by simp) ?_
       refine AllReadyIn.cons rfl (fun K hK=>?_) (AllReadyIn.nil)
       go_simp
       refine hK _ _ ?_
       clear hK K
       refine wpAnyIn_done (by kernel_rfl) ?_ _
       gi_wp2
       refine ⟨(keeps_below hW5).trans ((keeps_below hB6).trans (keeps_set4 _ _ _ _ _ _)),fun k hk=>?_,⟨u2,t2,by rw [List.map_append];exact hN⟩,⟨v0,v1,v2,v3,(heap_set4 _ _ _ _ (by omega)).trans hb7⟩,v4,(heap_set4 _ _ _ _ (by omega)).trans hb8⟩
       obtain ⟨hk1,hk2⟩:=hq1 k hk
       have:=hW5.size
       exact (heap_set4 _ _ _ _ (by omega)).trans ((hB6.block k (by omega)).trans (hW5.block k (by omega)))
     ·go_simp
      refine hK _ _ ?_
      clear hK K
      refine wpAnyIn_ready (rs:=[5]) (by kernel_rfl) (by simp) ?_
      refine AllReadyIn.cons rfl (fun K hK=>?_) (AllReadyIn.nil)
      go_simp
      refine hK _ _ ?_
      clear hK K
      refine wpAnyIn_ready (rs:=[7]) (by kernel_rfl) (by simp) ?_
      refine AllReadyIn.cons rfl (fun K hK=>?_) (AllReadyIn.nil)
      go_simp
      refine hK _ _ ?_
      clear hK K
      refine wpAnyIn_ready (rs:=[8]) (by kernel_rfl) (by simp) ?_
      refine AllReadyIn.cons rfl (fun K hK=>?_) (AllReadyIn.nil)
      go_simp
      refine hK _ _ ?_
      clear hK K
      refine wpAnyIn_done (by kernel_rfl) ?_ _
      gi_wp2
      refine ⟨(keeps_below hW5).trans ((keeps_below hB6).trans (keeps_set4 _ _ _ _ _ _)),fun k hk=>?_,⟨u2,t2,by rw [List.map_append];exact hN⟩,⟨v0,v1,v2,v3,(heap_set4 _ _ _ _ (by omega)).trans hb7⟩,v4,(heap_set4 _ _ _ _ (by omega)).trans hb8⟩
      obtain ⟨hk1,hk2⟩:=hq1 k hk
      have:=hW5.size
      exact (heap_set4 _ _ _ _ (by omega)).trans ((hB6.block k (by omega)).trans (hW5.block k (by omega)))
    ·go_simp
     gi_wp2_with (refine ⟨trivial,?_⟩;gi_at_call 24;refine (CallsIn.inRound l (callsIn_wide.2 (n_name (D:=[]) x.2 ht W1 hB1 trivial))).mono ?_;rintro e w5 ⟨rfl,hB5⟩;have f0:=(hB5.cell (p:=⟨w.heap.size,0,none⟩) hlt).trans c0;have f1:=(hB5.cell (p:=⟨w.heap.size,1,none⟩) hlt).trans c1;have f2:=(hB5.cell (p:=⟨w.heap.size,2,none⟩) hlt).trans c2;have f3:=(hB5.cell (p:=⟨w.heap.size,3,none⟩) hlt).trans c3)
     refine wpAnyIn_ready (rs:=[0]) (by kernel_rfl) (by simp) ?_
     refine AllReadyIn.cons rfl (fun K hK=>?_) (AllReadyIn.nil)
     go_simp
     refine hK _ _ ?_
     clear hK K
     refine wpAnyIn_ready (rs:=[3]) (by kernel_rfl) (by simp) ?_
     refine AllReadyIn.cons rfl (fun K hK=>?_) (AllReadyIn.nil)
     go_simp
     gi_wp2_with (refine ⟨trivial,?_⟩;gi_at_call 42;refine (CallsIn.inRound l (callsIn_wide.2 (d_remove (fun k hk=>Nat.lt_of_lt_of_le (hP1 k hk) hB5.size) (hd1.keep (low_alike hP1 hB5) (fun _ h=>h)) hs1 (nameV_100 x.1)))).mono ?_;rintro e w6 ⟨u2,he6,hB6,hd6⟩;simp only [hr.out,dc] at he6 hd6;subst he6;have hW5:=hWW1.trans (hB5.mono (Nat.le_of_eq hsW1.symm));have hb6:=(hB6.block _ (Nat.lt_of_lt_of_le hlt hB5.size)).trans ((hB5.block _ hlt).trans hb1);obtain ⟨g0,g1,g2,g3⟩:=cells4 hb6;obtain ⟨z0,z1,z2,z3⟩:=frozen4 hb6;have hR6:=hR.later hsW' hW5 hB6;obtain ⟨⟨v0,v1,v2,v3,hb7⟩,v4,hb8⟩:=hR6;obtain ⟨k0,k1,k2,k3⟩:=cells4 hb7;obtain ⟨y0,y1,y2,y3⟩:=frozen4 hb7;have m0:=(block_cell hb8 0 _ rfl).1;have n0:=(block_cell hb8 0 _ rfl).2;have hN:=hI.next (by omega) hS hr.out hW5 hB6 hd6)
     refine wpAnyIn_ready (rs:=[4]) (by kernel_rfl) (by simp) ?_
     refine AllReadyIn.cons rfl (fun K hK=>?_) (AllReadyIn.nil)
     go_simp
     refine hK _ _ ?_
     clear hK K
     refine wpAnyIn_ready (rs:=[5,6]) (by kernel_rfl) (by simp) ?_
     refine AllReadyIn.cons rfl (fun K hK=>?_) (AllReadyIn.cons rfl (fun K hK=>?_) (AllReadyIn.nil))
     ·go_simp
      refine hK _ _ ?_
      clear hK K
      refine wpAnyIn_ready (rs:=[6,7]) (by kernel_rfl) (by simp) ?_
      refine AllReadyIn.cons rfl (fun K hK=>?_) (AllReadyIn.cons rfl (fun K hK=>?_) (AllReadyIn.nil))
      ·go_simp
       refine hK _ _ ?_
       clear hK K
       refine wpAnyIn_ready (rs:=[7]) (by kernel_rfl) (by simp) ?_
       refine AllReadyIn.cons rfl (fun K hK=>?_) (AllReadyIn.nil)
       go_simp
       refine hK _ _ ?_
       clear hK K
       refine wpAnyIn_ready (rs:=[8]) (by kernel_rfl) (by simp) ?_
       refine AllReadyIn.cons rfl (fun K hK=>?_) (AllReadyIn.nil)
       go_simp
       refine hK _ _ ?_
       clear hK K
       refine wpAnyIn_done (by kernel_rfl) ?_ _
       gi_wp2
       refine ⟨(keeps_below hW5).trans ((keeps_below hB6).trans (keeps_set4 _ _ _ _ _ _)),fun k hk=>?_,⟨u2,t2,by rw [List.map_append];exact hN⟩,⟨v0,v1,v2,v3,(heap_set4 _ _ _ _ (by omega)).trans hb7⟩,v4,(heap_set4 _ _ _ _ (by omega)).trans hb8⟩
       obtain ⟨hk1,hk2⟩:=hq1 k hk
       have:=hW5.size
       exact (heap_set4 _ _ _ _ (by omega)).trans ((hB6.block k (by omega)).trans (hW5.block k (by omega)))
      ·go_simp
       refine hK _ _ ?_
       clear hK K
       refine wpAnyIn_ready (rs:=[6]) (by kernel_rfl) (by simp) ?_
       refine AllReadyIn.cons rfl (fun K hK=>?_) (AllReadyIn.nil)
       go_simp
       refine hK _ _ ?_
       clear hK K
       refine wpAnyIn_ready (rs:=[8]) (by kernel_rfl) (by simp) ?_
       refine AllReadyIn.cons rfl (fun K hK=>?_) (AllReadyIn.nil)
       go_simp
       refine hK _ _ ?_
       clear hK K
       refine wpAnyIn_done (by kernel_rfl) ?_ _
       gi_wp2
       refine ⟨(keeps_below hW5).trans ((keeps_below hB6).trans (keeps_set4 _ _ _ _ _ _)),fun k hk=>?_,⟨u2,t2,by rw [List.map_append];exact hN⟩,⟨v0,v1,v2,v3,(heap_set4 _ _ _ _ (by omega)).trans hb7⟩,v4,(heap_set4 _ _ _ _ (by omega)).trans hb8⟩
       obtain ⟨hk1,hk2⟩:=hq1 k hk
       have:=hW5.size
       exact (heap_set4 _ _ _ _ (by omega)).trans ((hB6.block k (by omega)).trans (hW5.block k (by omega)))
     ·go_simp
      refine hK _ _ ?_
      clear hK K
      refine wpAnyIn_ready (rs:=[5]) (by kernel_rfl) (by simp) ?_
      refine AllReadyIn.cons rfl (fun K hK=>?_) (AllReadyIn.nil)
      go_simp
      refine hK _ _ ?_
      clear hK K
      refine wpAnyIn_ready (rs:=[7]) (by kernel_rfl) (by simp) ?_
      refine AllReadyIn.cons rfl (fun K hK=>?_) (AllReadyIn.nil)
      go_simp
      refine hK _ _ ?_
      clear hK K
      refine wpAnyIn_ready (rs:=[8]) (by kernel_rfl) (by simp) ?_
      refine AllReadyIn.cons rfl (fun K hK=>?_) (AllReadyIn.nil)
      go_simp
      refine hK _ _ ?_
      clear hK K
      refine wpAnyIn_done (by kernel_rfl) ?_ _
      gi_wp2
      refine ⟨(keeps_below hW5).trans ((keeps_below hB6).trans (keeps_set4 _ _ _ _ _ _)),fun k hk=>?_,⟨u2,t2,by rw [List.map_append];exact hN⟩,⟨v0,v1,v2,v3,(heap_set4 _ _ _ _ (by omega)).trans hb7⟩,v4,(heap_set4 _ _ _ _ (by omega)).trans hb8⟩
      obtain ⟨hk1,hk2⟩:=hq1 k hk
      have:=hW5.size
      exact (heap_set4 _ _ _ _ (by omega)).trans ((hB6.block k (by omega)).trans (hW5.block k (by omega)))
  ·refine wpAnyIn_ready (rs:=[0,1]) (by kernel_rfl) (by simp) ?_
   refine AllReadyIn.cons rfl (fun K hK=>?_) (AllReadyIn.cons rfl (fun K hK=>?_) (AllReadyIn.nil))
   ·go_simp
    refine hK _ _ ?_
    clear hK K
    refine wpAnyIn_ready (rs:=[1]) (by kernel_rfl) (by simp) ?_
    refine AllReadyIn.cons rfl (fun K hK=>?_) (AllReadyIn.nil)
    go_simp
    refine hK _ _ ?_
    clear hK K
    refine wpAnyIn_ready (rs:=[2]) (by kernel_rfl) (by simp) ?_
    refine AllReadyIn.cons rfl (fun K hK=>?_) (AllReadyIn.nil)
    go_simp
    gi_wp2_with (refine ⟨trivial,?_⟩;gi_at_call 24;refine (CallsIn.inRound l (callsIn_wide.2 (n_name (D:=[]) x.2 ht W1 hB1 trivial))).mono ?_;rintro e w5 ⟨rfl,hB5⟩;have f0:=(hB5.cell (p:=⟨w.heap.size,0,none⟩) hlt).trans c0;have f1:=(hB5.cell (p:=⟨w.heap.size,1,none⟩) hlt).trans c1;have f2:=(hB5.cell (p:=⟨w.heap.size,2,none⟩) hlt).trans c2;have f3:=(hB5.cell (p:=⟨w.heap.size,3,none⟩) hlt).trans c3)
    refine wpAnyIn_ready (rs:=[3]) (by kernel_rfl) (by simp) ?_
    refine AllReadyIn.cons rfl (fun K hK=>?_) (AllReadyIn.nil)
    go_simp
    gi_wp2_with (refine ⟨trivial,?_⟩;gi_at_call 42;refine (CallsIn.inRound l (callsIn_wide.2 (d_remove (fun k hk=>Nat.lt_of_lt_of_le (hP1 k hk) hB5.size) (hd1.keep (low_alike hP1 hB5) (fun _ h=>h)) hs1 (nameV_100 x.1)))).mono ?_;rintro e w6 ⟨u2,he6,hB6,hd6⟩;simp only [hr.out,dc] at he6 hd6;subst he6;have hW5:=hWW1.trans (hB5.mono (Nat.le_of_eq hsW1.symm));have hb6:=(hB6.block _ (Nat.lt_of_lt_of_le hlt hB5.size)).trans ((hB5.block _ hlt).trans hb1);obtain ⟨g0,g1,g2,g3⟩:=cells4 hb6;obtain ⟨z0,z1,z2,z3⟩:=frozen4 hb6;have hR6:=hR.later hsW' hW5 hB6;obtain ⟨⟨v0,v1,v2,v3,hb7⟩,v4,hb8⟩:=hR6;obtain ⟨k0,k1,k2,k3⟩:=cells4 hb7;obtain ⟨y0,y1,y2,y3⟩:=frozen4 hb7;have m0:=(block_cell hb8 0 _ rfl).1;have n0:=(block_cell hb8 0 _ rfl).2;have hN:=hI.next (by omega) hS hr.out hW5 hB6 hd6)
    refine wpAnyIn_ready (rs:=[4]) (by kernel_rfl) (by simp) ?_
    refine AllReadyIn.cons rfl (fun K hK=>?_) (AllReadyIn.nil)
    go_simp
    refine hK _ _ ?_
    clear hK K
    refine wpAnyIn_ready (rs:=[5,6]) (by kernel_rfl) (by simp) ?_
    refine AllReadyIn.cons rfl (fun K hK=>?_) (AllReadyIn.cons rfl (fun K hK=>?_) (AllReadyIn.nil))
    ·go_simp
     refine hK _ _ ?_
     clear hK K
     refine wpAnyIn_ready (rs:=[6,7]) (by kernel_rfl) (by simp) ?_
     refine AllReadyIn.cons rfl (fun K hK=>?_) (AllReadyIn.cons rfl (fun K hK=>?_) (AllReadyIn.nil))
     ·go_simp
      refine hK _ _ ?_
      clear hK K
      refine wpAnyIn_ready (rs:=[7]) (by kernel_rfl) (by simp) ?_
      refine AllReadyIn.cons rfl (fun K hK=>?_) (AllReadyIn.nil)
      go_simp
      refine hK _ _ ?_
      clear hK K
      refine wpAnyIn_ready (rs:=[8]) (by kernel_rfl) (by simp) ?_
      refine AllReadyIn.cons rfl (fun K hK=>?_) (AllReadyIn.nil)
      go_simp
      refine hK _ _ ?_
      clear hK K
      refine wpAnyIn_done (by kernel_rfl) ?_ _
      gi_wp2
      refine ⟨(((keeps_below hW5).trans ((keeps_below hB6).trans (keeps_set4 _ _ _ _ _ _))).trans (keeps_set4 _ _ _ _ _ _)).trans (KeepsOthers.setCell _ _ _),rfl,u2,t2,e2,he2,by rw [List.map_append];exact hN.out (by omega) hS ((heap_set4 _ _ _ _ (by omega)).trans hb7) (.int .i64 e2),?_⟩
      refine heap_setCell_same _ _ 0 #[v4] _ (.int .i64 e2) ?_
      exact (heap_set4 _ _ _ _ (by omega)).trans ((heap_set4 _ _ _ _ (by omega)).trans hb8)
     ·go_simp
      refine hK _ _ ?_
      clear hK K
      refine wpAnyIn_ready (rs:=[6]) (by kernel_rfl) (by simp) ?_
      refine AllReadyIn.cons rfl (fun K hK=>?_) (AllReadyIn.nil)
      go_simp
      refine hK _ _ ?_
      clear hK K
      refine wpAnyIn_ready (rs:=[8]) (by kernel_rfl) (by simp) ?_
      refine AllReadyIn.cons rfl (fun K hK=>?_) (AllReadyIn.nil)
      go_simp
      refine hK _ _ ?_
      clear hK K
      refine wpAnyIn_done (by kernel_rfl) ?_ _
      gi_wp2
      refine ⟨(((keeps_below hW5).trans ((keeps_below hB6).trans (keeps_set4 _ _ _ _ _ _))).trans (keeps_set4 _ _ _ _ _ _)).trans (KeepsOthers.setCell _ _ _),rfl,u2,t2,e2,he2,by rw [List.map_append];exact hN.out (by omega) hS ((heap_set4 _ _ _ _ (by omega)).trans hb7) (.int .i64 e2),?_⟩
      refine heap_setCell_same _ _ 0 #[v4] _ (.int .i64 e2) ?_
      exact (heap_set4 _ _ _ _ (by omega)).trans ((heap_set4 _ _ _ _ (by omega)).trans hb8)
    ·go_simp
     refine hK _ _ ?_
     clear hK K
     refine wpAnyIn_ready (rs:=[5]) (by kernel_rfl) (by simp) ?_
     refine AllReadyIn.cons rfl (fun K hK=>?_) (AllReadyIn.nil)
     go_simp
     refine hK _ _ ?_
     clear hK K
     refine wpAnyIn_ready (rs:=[7]) (by kernel_rfl) (by simp) ?_
     refine AllReadyIn.cons rfl (fun K hK=>?_) (AllReadyIn.nil)
     go_simp
     refine hK _ _ ?_
     clear hK K
     refine wpAnyIn_ready (rs:=[8]) (by kernel_rfl) (by simp) ?_
     refine AllReadyIn.cons rfl (fun K hK=>?_) (AllReadyIn.nil)
     go_simp
     refine hK _ _ ?_
     clear hK K
     refine wpAnyIn_done (by kernel_rfl) ?_ _
     gi_wp2
     refine ⟨(((keeps_below hW5).trans ((keeps_below hB6).trans (keeps_set4 _ _ _ _ _ _))).trans (keeps_set4 _ _ _ _ _ _)).trans (KeepsOthers.setCell _ _ _),rfl,u2,t2,e2,he2,by rw [List.map_append];exact hN.out (by omega) hS ((heap_set4 _ _ _ _ (by omega)).trans hb7) (.int .i64 e2),?_⟩
     refine heap_setCell_same _ _ 0 #[v4] _ (.int .i64 e2) ?_
     exact (heap_set4 _ _ _ _ (by omega)).trans ((heap_set4 _ _ _ _ (by omega)).trans hb8)
   ·go_simp
    refine hK _ _ ?_
    clear hK K
    refine wpAnyIn_ready (rs:=[0,2]) (by kernel_rfl) (by simp) ?_
    refine AllReadyIn.cons rfl (fun K hK=>?_) (AllReadyIn.cons rfl (fun K hK=>?_) (AllReadyIn.nil))
    ·go_simp
     refine hK _ _ ?_
     clear hK K
     refine wpAnyIn_ready (rs:=[2]) (by kernel_rfl) (by simp) ?_
     refine AllReadyIn.cons rfl (fun K hK=>?_) (AllReadyIn.nil)
     go_simp
     gi_wp2_with (refine ⟨trivial,?_⟩;gi_at_call 24;refine (CallsIn.inRound l (callsIn_wide.2 (n_name (D:=[]) x.2 ht W1 hB1 trivial))).mono ?_;rintro e w5 ⟨rfl,hB5⟩;have f0:=(hB5.cell (p:=⟨w.heap.size,0,none⟩) hlt).trans c0;have f1:=(hB5.cell (p:=⟨w.heap.size,1,none⟩) hlt).trans c1;have f2:=(hB5.cell (p:=⟨w.heap.size,2,none⟩) hlt).trans c2;have f3:=(hB5.cell (p:=⟨w.heap.size,3,none⟩) hlt).trans c3)
     refine wpAnyIn_ready (rs:=[3]) (by kernel_rfl) (by simp) ?_
     refine AllReadyIn.cons rfl (fun K hK=>?_) (AllReadyIn.nil)
     go_simp
     gi_wp2_with (refine ⟨trivial,?_⟩;gi_at_call 42;refine (CallsIn.inRound l (callsIn_wide.2 (d_remove (fun k hk=>Nat.lt_of_lt_of_le (hP1 k hk) hB5.size) (hd1.keep (low_alike hP1 hB5) (fun _ h=>h)) hs1 (nameV_100 x.1)))).mono ?_;rintro e w6 ⟨u2,he6,hB6,hd6⟩;simp only [hr.out,dc] at he6 hd6;subst he6;have hW5:=hWW1.trans (hB5.mono (Nat.le_of_eq hsW1.symm));have hb6:=(hB6.block _ (Nat.lt_of_lt_of_le hlt hB5.size)).trans ((hB5.block _ hlt).trans hb1);obtain ⟨g0,g1,g2,g3⟩:=cells4 hb6;obtain ⟨z0,z1,z2,z3⟩:=frozen4 hb6;have hR6:=hR.later hsW' hW5 hB6;obtain ⟨⟨v0,v1,v2,v3,hb7⟩,v4,hb8⟩:=hR6;obtain ⟨k0,k1,k2,k3⟩:=cells4 hb7;obtain ⟨y0,y1,y2,y3⟩:=frozen4 hb7;have m0:=(block_cell hb8 0 _ rfl).1;have n0:=(block_cell hb8 0 _ rfl).2;have hN:=hI.next (by omega) hS hr.out hW5 hB6 hd6)
     refine wpAnyIn_ready (rs:=[4]) (by kernel_rfl) (by simp) ?_
     refine AllReadyIn.cons rfl (fun K hK=>?_) (AllReadyIn.nil)
     go_simp
     refine hK _ _ ?_
     clear hK K
     refine wpAnyIn_ready (rs:=[5,6]) (by kernel_rfl) (by simp) ?_
     refine AllReadyIn.cons rfl (fun K hK=>?_) (AllReadyIn.cons rfl (fun K hK=>?_) (AllReadyIn.nil))
     ·go_simp
      refine hK _ _ ?_
      clear hK K
      refine wpAnyIn_ready (rs:=[6,7]) (by kernel_rfl) (by simp) ?_
      refine AllReadyIn.cons rfl (fun K hK=>?_) (AllReadyIn.cons rfl (fun K hK=>?_) (AllReadyIn.nil))
      ·go_simp
       refine hK _ _ ?_
       clear hK K
       refine wpAnyIn_ready (rs:=[7]) (by kernel_rfl) (by simp) ?_
       refine AllReadyIn.cons rfl (fun K hK=>?_) (AllReadyIn.nil)
       go_simp
       refine hK _ _ ?_
       clear hK K
       refine wpAnyIn_ready (rs:=[8]) (by kernel_rfl) (by simp) ?_
       refine AllReadyIn.cons rfl (fun K hK=>?_) (AllReadyIn.nil)
       go_simp
       refine hK _ _ ?_
       clear hK K
       refine wpAnyIn_done (by kernel_rfl) ?_ _
       gi_wp2
       refine ⟨(((keeps_below hW5).trans ((keeps_below hB6).trans (keeps_set4 _ _ _ _ _ _))).trans (keeps_set4 _ _ _ _ _ _)).trans (KeepsOthers.setCell _ _ _),rfl,u2,t2,e2,he2,by rw [List.map_append];exact hN.out (by omega) hS ((heap_set4 _ _ _ _ (by omega)).trans hb7) (.int .i64 e2),?_⟩
       refine heap_setCell_same _ _ 0 #[v4] _ (.int .i64 e2) ?_
       exact (heap_set4 _ _ _ _ (by omega)).trans ((heap_set4 _ _ _ _ (by omega)).trans hb8)
      ·go_simp
       refine hK _ _ ?_
       clear hK K
       refine wpAnyIn_ready (rs:=[6]) (by kernel_rfl) (by simp) ?_
       refine AllReadyIn.cons rfl (fun K hK=>?_) (AllReadyIn.nil)
       go_simp
       refine hK _ _ ?_
       clear hK K
       refine wpAnyIn_ready (rs:=[8]) (by kernel_rfl) (by simp) ?_
       refine AllReadyIn.cons rfl (fun K hK=>?_) (AllReadyIn.nil)
       go_simp
       refine hK _ _ ?_
       clear hK K
       refine wpAnyIn_done (by kernel_rfl) ?_ _
       gi_wp2
       refine ⟨(((keeps_below hW5).trans ((keeps_below hB6).trans (keeps_set4 _ _ _ _ _ _))).trans (keeps_set4 _ _ _ _ _ _)).trans (KeepsOthers.setCell _ _ _),rfl,u2,t2,e2,he2,by rw [List.map_append];exact hN.out (by omega) hS ((heap_set4 _ _ _ _ (by omega)).trans hb7) (.int .i64 e2),?_⟩
       refine heap_setCell_same _ _ 0 #[v4] _ (.int .i64 e2) ?_
       exact (heap_set4 _ _ _ _ (by omega)).trans ((heap_set4 _ _ _ _ (by omega)).trans hb8)
     ·go_simp
      refine hK _ _ ?_
      clear hK K
      refine wpAnyIn_ready (rs:=[5]) (by kernel_rfl) (by simp) ?_
      refine AllReadyIn.cons rfl (fun K hK=>?_) (AllReadyIn.nil)
      go_simp
      refine hK _ _ ?_
      clear hK K
      refine wpAnyIn_ready (rs:=[7]) (by kernel_rfl) (by simp) ?_
      refine AllReadyIn.cons rfl (fun K hK=>?_) (AllReadyIn.nil)
      go_simp
      refine hK _ _ ?_
      clear hK K
      refine wpAnyIn_ready (rs:=[8]) (by kernel_rfl) (by simp) ?_
      refine AllReadyIn.cons rfl (fun K hK=>?_) (AllReadyIn.nil)
      go_simp
      refine hK _ _ ?_
      clear hK K
      refine wpAnyIn_done (by kernel_rfl) ?_ _
      gi_wp2
      refine ⟨(((keeps_below hW5).trans ((keeps_below hB6).trans (keeps_set4 _ _ _ _ _ _))).trans (keeps_set4 _ _ _ _ _ _)).trans (KeepsOthers.setCell _ _ _),rfl,u2,t2,e2,he2,by rw [List.map_append];exact hN.out (by omega) hS ((heap_set4 _ _ _ _ (by omega)).trans hb7) (.int .i64 e2),?_⟩
      refine heap_setCell_same _ _ 0 #[v4] _ (.int .i64 e2) ?_
      exact (heap_set4 _ _ _ _ (by omega)).trans ((heap_set4 _ _ _ _ (by omega)).trans hb8)
    ·go_simp
     gi_wp2_with (refine ⟨trivial,?_⟩;gi_at_call 24;refine (CallsIn.inRound l (callsIn_wide.2 (n_name (D:=[]) x.2 ht W1 hB1 trivial))).mono ?_;rintro e w5 ⟨rfl,hB5⟩;have f0:=(hB5.cell (p:=⟨w.heap.size,0,none⟩) hlt).trans c0;have f1:=(hB5.cell (p:=⟨w.heap.size,1,none⟩) hlt).trans c1;have f2:=(hB5.cell (p:=⟨w.heap.size,2,none⟩) hlt).trans c2;have f3:=(hB5.cell (p:=⟨w.heap.size,3,none⟩) hlt).trans c3)
     refine wpAnyIn_ready (rs:=[0]) (by kernel_rfl) (by simp) ?_
     refine AllReadyIn.cons rfl (fun K hK=>?_) (AllReadyIn.nil)
     go_simp
     refine hK _ _ ?_
     clear hK K
     refine wpAnyIn_ready (rs:=[3]) (by kernel_rfl) (by simp) ?_
     refine AllReadyIn.cons rfl (fun K hK=>?_) (AllReadyIn.nil)
     go_simp
     gi_wp2_with (refine ⟨trivial,?_⟩;gi_at_call 42;refine (CallsIn.inRound l (callsIn_wide.2 (d_remove (fun k hk=>Nat.lt_of_lt_of_le (hP1 k hk) hB5.size) (hd1.keep (low_alike hP1 hB5) (fun _ h=>h)) hs1 (nameV_100 x.1)))).mono ?_;rintro e w6 ⟨u2,he6,hB6,hd6⟩;simp only [hr.out,dc] at he6 hd6;subst he6;have hW5:=hWW1.trans (hB5.mono (Nat.le_of_eq hsW1.symm));have hb6:=(hB6.block _ (Nat.lt_of_lt_of_le hlt hB5.size)).trans ((hB5.block _ hlt).trans hb1);obtain ⟨g0,g1,g2,g3⟩:=cells4 hb6;obtain ⟨z0,z1,z2,z3⟩:=frozen4 hb6;have hR6:=hR.later hsW' hW5 hB6;obtain ⟨⟨v0,v1,v2,v3,hb7⟩,v4,hb8⟩:=hR6;obtain ⟨k0,k1,k2,k3⟩:=cells4 hb7;obtain ⟨y0,y1,y2,y3⟩:=frozen4 hb7;have m0:=(block_cell hb8 0 _ rfl).1;have n0:=(block_cell hb8 0 _ rfl).2;have hN:=hI.next (by omega) hS hr.out hW5 hB6 hd6)
     refine wpAnyIn_ready (rs:=[4]) (by kernel_rfl) (by simp) ?_
     refine AllReadyIn.cons rfl (fun K hK=>?_) (AllReadyIn.nil)
     go_simp
     refine hK _ _ ?_
     clear hK K
     refine wpAnyIn_ready (rs:=[5,6]) (by kernel_rfl) (by simp) ?_
     refine AllReadyIn.cons rfl (fun K hK=>?_) (AllReadyIn.cons rfl (fun K hK=>?_) (AllReadyIn.nil))
     ·go_simp
      refine hK _ _ ?_
      clear hK K
      refine wpAnyIn_ready (rs:=[6,7]) (by kernel_rfl) (by simp) ?_
      refine AllReadyIn.cons rfl (fun K hK=>?_) (AllReadyIn.cons rfl (fun K hK=>?_) (AllReadyIn.nil))
      ·go_simp
       refine hK _ _ ?_
       clear hK K
       refine wpAnyIn_ready (rs:=[7]) (by kernel_rfl) (by simp) ?_
       refine AllReadyIn.cons rfl (fun K hK=>?_) (AllReadyIn.nil)
       go_simp
       refine hK _ _ ?_
       clear hK K
       refine wpAnyIn_ready (rs:=[8]) (by kernel_rfl) (by simp) ?_
       refine AllReadyIn.cons rfl (fun K hK=>?_) (AllReadyIn.nil)
       go_simp
       refine hK _ _ ?_
       clear hK K
       refine wpAnyIn_done (by kernel_rfl) ?_ _
       gi_wp2
       refine ⟨(((keeps_below hW5).trans ((keeps_below hB6).trans (keeps_set4 _ _ _ _ _ _))).trans (keeps_set4 _ _ _ _ _ _)).trans (KeepsOthers.setCell _ _ _),rfl,u2,t2,e2,he2,by rw [List.map_append];exact hN.out (by omega) hS ((heap_set4 _ _ _ _ (by omega)).trans hb7) (.int .i64 e2),?_⟩
       refine heap_setCell_same _ _ 0 #[v4] _ (.int .i64 e2) ?_
       exact (heap_set4 _ _ _ _ (by omega)).trans ((heap_set4 _ _ _ _ (by omega)).trans hb8)
      ·go_simp
       refine hK _ _ ?_
       clear hK K
       refine wpAnyIn_ready (rs:=[6]) (by kernel_rfl) (by simp) ?_
       refine AllReadyIn.cons rfl (fun K hK=>?_) (AllReadyIn.nil)
       go_simp
       refine hK _ _ ?_
       clear hK K
       refine wpAnyIn_ready (rs:=[8]) (by kernel_rfl) (by simp) ?_
       refine AllReadyIn.cons rfl (fun K hK=>?_) (AllReadyIn.nil)
       go_simp
       refine hK _ _ ?_
       clear hK K
       refine wpAnyIn_done (by kernel_rfl) ?_ _
       gi_wp2
       refine ⟨(((keeps_below hW5).trans ((keeps_below hB6).trans (keeps_set4 _ _ _ _ _ _))).trans (keeps_set4 _ _ _ _ _ _)).trans (KeepsOthers.setCell _ _ _),rfl,u2,t2,e2,he2,by rw [List.map_append];exact hN.out (by omega) hS ((heap_set4 _ _ _ _ (by omega)).trans hb7) (.int .i64 e2),?_⟩
       refine heap_setCell_same _ _ 0 #[v4] _ (.int .i64 e2) ?_
       exact (heap_set4 _ _ _ _ (by omega)).trans ((heap_set4 _ _ _ _ (by omega)).trans hb8)
     ·go_simp
      refine hK _ _ ?_
      clear hK K
      refine wpAnyIn_ready (rs:=[5]) (by kernel_rfl) (by simp) ?_
      refine AllReadyIn.cons rfl (fun K hK=>?_) (AllReadyIn.nil)
      go_simp
      refine hK _ _ ?_
      clear hK K
      refine wpAnyIn_ready (rs:=[7]) (by kernel_rfl) (by simp) ?_
      refine AllReadyIn.cons rfl (fun K hK=>?_) (AllReadyIn.nil)
      go_simp
      refine hK _ _ ?_
      clear hK K
      refine wpAnyIn_ready (rs:=[8]) (by kernel_rfl) (by simp) ?_
      refine AllReadyIn.cons rfl (fun K hK=>?_) (AllReadyIn.nil)
      go_simp
      refine hK _ _ ?_
      clear hK K
      refine wpAnyIn_done (by kernel_rfl) ?_ _
      gi_wp2
      refine ⟨(((keeps_below hW5).trans ((keeps_below hB6).trans (keeps_set4 _ _ _ _ _ _))).trans (keeps_set4 _ _ _ _ _ _)).trans (KeepsOthers.setCell _ _ _),rfl,u2,t2,e2,he2,by rw [List.map_append];exact hN.out (by omega) hS ((heap_set4 _ _ _ _ (by omega)).trans hb7) (.int .i64 e2),?_⟩
      refine heap_setCell_same _ _ 0 #[v4] _ (.int .i64 e2) ?_
      exact (heap_set4 _ _ _ _ (by omega)).trans ((heap_set4 _ _ _ _ (by omega)).trans hb8)
 case done =>
  rintro D ys W hD hys ⟨⟨u1,t1,hI⟩,⟨v0,v1,v2,v3,hb1⟩,v4,hb2⟩ hK
  have hsW:=hI.s
  obtain ⟨c0,c1,c2,c3⟩:=cells4 hI.b0
  obtain ⟨k0,k1,k2,k3⟩:=cells4 hb1
  obtain ⟨y0,y1,y2,y3⟩:=frozen4 hb1
  have m0:=(block_cell hb2 0 _ rfl).1
  have n0:=(block_cell hb2 0 _ rfl).2
  gi_wp2
  have hK':=((keeps_set4 W (w.heap.size+1) (.slice u1.A t1.files.length u1.c) (.int .i64 t1.room) (.int .i64 t1.fuse) (.bool t1.down)).trans (KeepsOthers.setCell _ ⟨w.heap.size+1+1,0,none⟩ (.int .i64 0))).same D _ hK rfl
  refine ⟨by simp,.inl ⟨_,_,rfl,run_takeDeferred hK',?_⟩⟩
  have hZ:=(hI.out (by omega) hS hb1 (.int .i64 0)).turn hB2.size (grownBy_putObj' _ D (.deferred none)) (fun r e=>by cases e;exact ⟨hD,_,hK',rfl⟩)
  have hX:=(heap_set4 (w:=W) (g:=w.heap.size+1) (b:=w.heap.size+1+1) (.slice u1.A t1.files.length u1.c) (.int .i64 t1.room) (.int .i64 t1.fuse) (.bool t1.down) (by omega)).trans hb2
  have h9:=heap_setCell_same _ (w.heap.size+1+1) 0 #[v4] _ (.int .i64 0) hX
  have hZ2:=block_kept (cs:=#[.int .i64 0]) h9 (grownBy_putObj' _ D (.deferred none)) (fun r e=>by cases e;exact ⟨_,hK',rfl⟩)
  obtain ⟨r0,r1,r2,r3⟩:=cells4 hZ.b0
  have r4:=(block_cell hZ2 0 _ rfl).1
  have hrm:removedA t a=(t1,0):=by unfold removedA;rw [← hys];exact hI.r
  rw [hrm]
  refine ⟨.tuple #[.agg #[.slice u1.A t1.files.length u1.c,.int .i64 t1.room,.int .i64 t1.fuse,.bool t1.down],.int .i64 0],?_,u1,rfl,hZ.b,hZ.d.more (fun k hk=>hk.elim .inl (fun h=>.inr ⟨Nat.le_trans hB2.size h.1,h.2⟩))⟩
  ·simp [results,Tryz.f53,go_sem,r0,r1,r2,r3,r4]
 case stop =>
  rintro D c pre W hD hpre ⟨rfl,u1,t1,e1,h0,hI,hb2⟩ hK
  have hsW:=hI.s
  obtain ⟨c0,c1,c2,c3⟩:=cells4 hI.b0
  gi_wp2
  have hK':=hK
  refine ⟨by simp,.inl ⟨_,_,rfl,run_takeDeferred hK',?_⟩⟩
  have hZ:=hI.turn hB2.size (grownBy_putObj' _ D (.deferred none)) (fun r e=>by cases e;exact ⟨hD,_,hK',rfl⟩)
  have hZ2:=block_kept hb2 (grownBy_putObj' _ D (.deferred none)) (fun r e=>by cases e;exact ⟨_,hK',rfl⟩)
  obtain ⟨r0,r1,r2,r3⟩:=cells4 hZ.b0
  have r4:=(block_cell hZ2 0 _ rfl).1
  have hrm:removedA t a=(t1,e1):=rem_stop h0 hI.r hpre
  rw [hrm]
  refine ⟨.tuple #[.agg #[.slice u1.A t1.files.length u1.c,.int .i64 t1.room,.int .i64 t1.fuse,.bool t1.down],.int .i64 e1],?_,u1,rfl,hZ.b,hZ.d.more (fun k hk=>hk.elim .inl (fun h=>.inr ⟨Nat.le_trans hB2.size h.1,h.2⟩))⟩
  ·simp [results,Tryz.f53,go_sem,r0,r1,r2,r3,r4]
end Go.Proofs.YtalhdalinpdanaaGreatDoor.wal
