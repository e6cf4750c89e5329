/-
  zk1, zk2, zk3
-/
import Derived.Test.YtbbjlfbemibfcaaGreatMrr31
import Derived.Deep.RegionLaw
import Derived.Lib.SliceRun
import Derived.Test.YtbbjlfbemibfcaaGreatMrr16
set_option linter.unusedVariables false
set_option linter.unusedSimpArgs false
section
namespace Go.Proofs.YtbbjlfbemibfcaaGreat.book
set_option maxRecDepth 20000
open Go.RowKit Go.Proofs.YtbbjlfbemibfcaaGreat
open Go.Proofs.YtbbjlfbemibfcaaGreat.order (Or Nt open_ worth oz)
open Go.Proofs.YtbbjlfbemibfcaaGreat.cell (Ce Ex)
open Go.Proofs.YtbbjlfbemibfcaaGreat.rec (Rc)
theorem qpc {α:Type} {R:Rd α} {size:Nat} {w:World} {S:Nat→Prop} : ∀ {css:List (List Value)} {xs:List α} (i:Nat),Each R size w S css xs→Each R size w S (css.eraseIdx i) (xs.eraseIdx i)
 | [],[],_,_=>trivial
 | [],_ :: _,_,h=>h.elim
 | _ :: _,[],_,h=>h.elim
 | _ :: _,_ :: _,0,h=>h.2.2
 | _ :: _,_ :: _,i+1,h=>⟨h.1,h.2.1,qpc i h.2.2⟩
theorem qpd {size:Nat} : ∀ (css:List (List Value)) (i:Nat),(∀ x ∈ css,x.length=size)→i < css.length→(css.eraseIdx i).flatten=css.flatten.take (i * size)++css.flatten.drop (i * size+size)
 | [],i,_,h=>by simp at h
 |x :: css,0,h,_=>by
  have hx:=h x (by simp)
  simp [← hx]
 |x :: css,i+1,h,hi=>by
  have hx:=h x (by simp)
  have ih:=qpd css i (fun y hy=>h y (by simp [hy])) (by simpa using hi)
  rw [List.eraseIdx_cons_succ,List.flatten_cons,ih,List.flatten_cons]
  have e1:(i+1) * size=x.length+i * size:=by rw [hx,Nat.succ_mul];omega
  rw [e1,List.take_length_add_append,Nat.add_assoc,List.drop_length_add_append]
  simp
theorem qz7 {α:Type} {R:Rd α} {size:Nat} {w w' : World} {S:Nat→Prop} (hF:∀ {cs x},R w S cs x→R w' S cs x):∀ {css:List (List Value)} {xs:List α},Each R size w S css xs→Each R size w' S css xs
 | [],[],_=>trivial
 | [],_ :: _,h=>h.elim
 | _ :: _,[],h=>h.elim
 | _ :: _,_ :: _,h=>⟨h.1,hF h.2.1,qz7 hF h.2.2⟩
theorem qxy {w w' : World} {S:Nat→Prop} {css:List (List Value)} {xs:List Or} (h:Each eu 12 w S css xs):Each eu 12 w' S css xs:=qz7 (w:=w) (w':=w') (fun h=>h) h
abbrev ug:List Value:=[.int .i64 0,.int .i64 0,.int .i64 0,.int .i64 0,.int .i64 0,.int .i64 0,.int .i64 0,.int .i64 0,.int .i64 0,.int .i64 0,.int .i64 0,.bool false]
theorem qz8 (w:World) (ty:TypeId) (g o c:Nat) (hc:∀ j,j < 12→(w.cell? ⟨g,o+j,none⟩).isSome=true) (hf:∀ j,j < 12→w.frozen? ⟨g,o+j,none⟩=false) :
  (Builtin.clear_ #[22] ty #[.slice (some ⟨g,o,none⟩) 1 c]).run Tryz.prog w = .ok (.tuple #[]) (w.setCells g o ug):=by
 have hv:(zeroValue 54).run Tryz.prog w = .ok (.agg ug.toArray) w:=by kernel_rfl
 have hzc:(Builtin.zeroCells (Value.agg ug.toArray).cells 1).toList=ug:=by kernel_rfl
 have hst:=run_storeCells_cells (P:=Tryz.prog) g o ug 0 w (by simpa using hc) (by simpa using hf) (by intro v hv';simp [ug] at hv';rcases hv' with rfl | rfl<;>rfl)
 simp only [Nat.add_zero] at hst
 simp [Builtin.clear_,run_underlying Tryz.underlying22,hv,hzc,hst]
theorem q20 (cur:List Value) (zs:List Value) (size i m:Nat) (hz:zs.length=size) (hl:(i+1+m) * size≤cur.length) :
  let c1:=cur.take (i * size)++(cur.drop ((i+1) * size)).take (m * size)++cur.drop (i * size+m * size)
  (c1.take ((i+m) * size)++zs++c1.drop ((i+m) * size+size)).length=cur.length∧(c1.take ((i+m) * size)++zs++c1.drop ((i+m) * size+size)).take ((i+m) * size)=(cur.take ((i+1+m) * size)).take (i * size)++(cur.take ((i+1+m) * size)).drop (i * size+size):=by
 intro c1
 have e1:(i+1+m) * size=i * size+size+m * size:=by rw [Nat.add_mul,Nat.succ_mul]
 have e2:(i+m) * size=i * size+m * size:=Nat.add_mul _ _ _
 have e3:(i+1) * size=i * size+size:=Nat.succ_mul _ _
 have hA:(cur.take (i * size)).length=i * size:=by rw [List.length_take];omega
 have hB:((cur.drop ((i+1) * size)).take (m * size)).length=m * size:=by rw [List.length_take,List.length_drop];omega
 have hc1:c1.length=cur.length:=by
  show (cur.take (i * size)++(cur.drop ((i+1) * size)).take (m * size)++cur.drop (i * size+m * size)).length=_
  rw [List.length_append,List.length_append,hA,hB,List.length_drop];omega
 have ht:c1.take ((i+m) * size)=cur.take (i * size)++(cur.drop ((i+1) * size)).take (m * size):=by
  show (cur.take (i * size)++(cur.drop ((i+1) * size)).take (m * size)++cur.drop (i * size+m * size)).take _=_
  rw [e2,List.take_append_of_le_length (by rw [List.length_append,hA,hB];omega),List.take_of_length_le (by rw [List.length_append,hA,hB];omega)]
 refine ⟨?_,?_⟩
 ·rw [List.length_append,List.length_append,List.length_take,List.length_drop,hc1,hz];omega
 ·rw [List.append_assoc,List.take_append_of_le_length (by rw [ht,List.length_append,hA,hB];omega),List.take_of_length_le (by rw [ht,List.length_append,hA,hB];omega),ht]
  rw [List.take_take,Nat.min_eq_left (by omega),List.drop_take,e1,e3]
  congr 2
  omega
theorem Hr {α:Type} {R:Rd α} (hL:Leaf R) {size:Nat} {w:World} {S:Nat→Prop} : ∀ {css:List (List Value)} {xs:List α},Each R size w S css xs→∀ u ∈ css.flatten,u.oneCell'=true
 | [],_,_,u,hu=>by simp at hu
 | _ :: _,[],h,_,_=>h.elim
 |cs :: css,x :: xs,h,u,hu=>by
  rw [List.flatten_cons,List.mem_append] at hu
  rcases hu with hu | hu
  ·exact hL _ _ _ _ h.2.1 u hu
  ·exact Hr hL h.2.2 u hu
set_option maxRecDepth 100000 in
set_option maxHeartbeats 4000000 in
theorem q58 (g c i m:Nat) (L:List Or) (w:World) (h:um eu 12 w 0 54 (fun _=>False) (some ⟨g,0,none⟩) L.length c L) (him:L.length=i+1+m) :
  Calls Tryz.prog 132 #[.slice (some ⟨g,0,none⟩) L.length c,.int .i64 (i:Nat),.int .i64 ((i:Int)+1)] w fun e w'=>e = .returned (.slice (some ⟨g,0,none⟩) (L.eraseIdx i).length c) ∧
   um eu 12 w' 0 54 (fun _=>False) (some ⟨g,0,none⟩) (L.eraseIdx i).length c (L.eraseIdx i)∧Dk (fun k=>k=g) w w':=by
 have hle:(L.eraseIdx i).length=i+m:=by rw [List.length_eraseIdx,if_pos (by omega)];omega
 obtain ⟨css,⟨hcl,hrow⟩,hE,hlen⟩:=h
 rcases hrow with ⟨hv,_⟩ | ⟨g',cap,cur,hv,_,hg,hnc,hcm,hsz,hcur⟩
 ·simp at hv
 simp only [Value.slice.injEq,Option.some.injEq,Addr.mk.injEq,and_true,true_and] at hv
 obtain ⟨rfl,rfl⟩:=hv
 rw [hle]
 rw [him] at hcl hcur hnc ⊢
 have zk4:css.length=i+1+m:=by rw [hE.len.1,him]
 obtain ⟨news,hnews⟩:∃ news,news=(cur.toList.drop ((i+1) * 12)).take (m * 12):=⟨_,rfl⟩
 have hl:news.length=m * 12:=by rw [hnews,List.length_take,List.length_drop,Array.length_toList,hsz];omega
 have hget:∀ t,t < m * 12→news[t]?=cur[(i+1) * 12+t]?:=fun t ht=>by rw [hnews,List.getElem?_take,if_pos ht,List.getElem?_drop,Array.getElem?_toList]
 have h1c:Hid (∀ u ∈ news,u.oneCell'=true):=Lib.hid (fun u hu=>by
  refine Hr Py hE u ?_
  rw [← hcur]
  obtain ⟨t,ht,e⟩:=List.getElem_of_mem hu
  refine List.mem_of_getElem? (i:=(i+1) * 12+t) ?_
  rw [List.getElem?_take,if_pos (by omega),Array.getElem?_toList,← hget t (by omega),List.getElem?_eq_getElem ht,e])
 have hcell:∀ (W:World) (cu:Array Value),W.heap[g]?=some (.cells cu 54 (0,0))→cu.size=c * 12→∀ k,k < c * 12→(W.cell? ⟨g,k,none⟩).isSome=true∧W.frozen? ⟨g,k,none⟩=false:=fun W cu h hs k hk=>by
  have:=Dj h k cu[k] (Array.getElem?_eq_getElem (by omega))
  exact ⟨by rw [this.1];rfl,this.2⟩
 have hcz:cur.toList.length=c * 12:=by rw [Array.length_toList,hsz]
 obtain ⟨W1,hW1⟩:∃ W1,W1=w.drew.setCells g (i * 12) news:=⟨_,rfl⟩
 have hE1:=Va (T:=54) (g:=g) news (i * 12) w.drew cur.toList (by simpa using (show w.drew.heap[g]?=some (.cells cur 54 (0,0)) from hg)) (by omega)
 rw [← hW1,hl] at hE1
 have hcl0:=q20 cur.toList ug 12 i m rfl (by rw [hcz];omega)
 simp only [← hnews] at hcl0
 have Y2:=Lib.hid hcl0
 clear hcl0
 have hs1:Hid ((cur.toList.take (i * 12)++news++cur.toList.drop (i * 12+m * 12)).length=c * 12):=Lib.hid (by
  rw [List.length_append,List.length_append,List.length_take,List.length_drop,hl,hcz];omega)
 have hE2:=Va (T:=54) (g:=g) ug ((i+m) * 12) W1 _ hE1 (by rw [hs1.out];show (i+m) * 12+12≤c * 12;omega)
 have hk1:=hcell W1 _ hE1 (by rw [List.size_toArray];exact hs1.out)
 have z4b:∀ ty cc,(Builtin.clear_ #[22] ty #[.slice (some ⟨g,(i+m) * 12,none⟩) 1 cc]).run Tryz.prog W1 = .ok (.tuple #[]) (W1.setCells g ((i+m) * 12) ug):=fun ty cc =>
  qz8 W1 ty g ((i+m) * 12) cc (fun j hj=>(hk1 _ (by omega)).1) (fun j hj=>(hk1 _ (by omega)).2)
 have zk5:Hid (um eu 12 (W1.setCells g ((i+m) * 12) ug) 0 54 (fun _=>False) (some ⟨g,0,none⟩) (i+m) c (L.eraseIdx i)∧Dk (fun k=>k=g) w (W1.setCells g ((i+m) * 12) ug)):=Lib.hid (by
  have hfl:=qpd css i hE.lens (by omega)
  refine ⟨⟨css.eraseIdx i,⟨?_,.inr ⟨g,c,_,rfl,Nat.zero_le _,hE2,by omega,hcm,?_,?_⟩⟩,qxy (qpc i hE),hle⟩,?_⟩
  ·rw [hfl,List.length_append,List.length_take,List.length_drop,hcl];omega
  ·have:=Y2.out.1
   rw [List.size_toArray]
   exact this.trans hcz
  ·have:=Y2.out.2
   rw [hcur,← hfl] at this
   exact this
  ·refine ⟨?_,?_,?_,?_,fun k hk hx=>?_⟩
   ·rw [hW1];exact (Ii (Nat.zero_le _) _ _ _ (Ii (Nat.zero_le _) _ _ _ (Below.refl 0 w).drew)).os
   ·rw [hW1];exact (Ii (Nat.zero_le _) _ _ _ (Ii (Nat.zero_le _) _ _ _ (Below.refl 0 w).drew)).tape
   ·rw [hW1];exact (Ii (Nat.zero_le _) _ _ _ (Ii (Nat.zero_le _) _ _ _ (Below.refl 0 w).drew)).output
   ·rw [setCells_size,hW1,setCells_size];exact Nat.le_refl _
   ·rw [Wu hx,hW1,Wu hx];rfl)
 have HW1:=Lib.hid hW1
 have hspare:Hid (∀ j,j < news.length→(w.drew.cell? ⟨g,0+i * 12+j,none⟩).isSome=true∧w.drew.frozen? ⟨g,0+i * 12+j,none⟩=false):=Lib.hid (fun j hj=>hcell w.drew cur hg hsz _ (by omega))
 have hinfo:∃ i0:TypeInfo,Hid (Tryz.prog.info? 54=some i0)∧Hid (i0.size=12):=by
  refine ⟨(Tryz.prog.info? 54).getD default,Lib.hid (by kernel_rfl),Lib.hid (by kernel_rfl)⟩
 obtain ⟨i0,hi0,hz1⟩:=hinfo
 obtain ⟨A,hA,hsrc⟩:∃ A:Addr,(if c=i+1 then (some ⟨g,0,none⟩:Option Addr) else some ⟨g,(i+1) * 12,none⟩)=some A∧Hid (∀ t u,news[t]?=some u→w.drew.cell? (A.add t)=some u):=by
  by_cases h:c=i+1
  ·refine ⟨⟨g,0,none⟩,by simp [h],Lib.hid fun t u hu=>?_⟩
   have ht:=(List.getElem?_eq_some_iff.1 hu).1
   omega
  ·refine ⟨⟨g,(i+1) * 12,none⟩,by simp [h],Lib.hid fun t u hu=>?_⟩
   have ht:=(List.getElem?_eq_some_iff.1 hu).1
   rw [hget t (by omega)] at hu
   rw [Addr.add_lit]
   exact (Dj (w:=w.drew) hg _ u hu).1
 have hw1:IntKind.i64.wrap ((i:Int)+1)=(i:Int)+1:=by rw [IntKind.wrap_i64];unfold maxLen at hcm;omega
 have htn:((i:Int)+1).toNat=i+1:=by omega
 have hic:i≤c:=by omega
 have hb1:(0:Int)≤(i:Int)+1:=by omega
 have hb2:(i:Int)+1≤(i:Int)+1+(m:Int):=by omega
 have hne2:¬ (c=i+m):=by omega
 have z4c:i+1≤c:=by omega
 have hsub:i+1+m - (i+m)=1:=by omega
 have hsub2:i+1+m - (i+1)=m:=by omega
 have hne:¬ ((i:Int)=(i:Int)+1):=by omega
 clear hg hcur hE hlen hE1 hE2 hW1 hcell hk1 hcz hnews Y2 hs1 hget zk4 hle him
 go_enter Tryz.func132,Tryz.ntmps132
 go_wp2_with fail
 go_region_law (refine step_append_room rfl (.tmp 22) (.tmp 25) 22 rfl 54 i0 12 Tryz.underlying22 hi0.out hz1.out g 0 i c (by simp [Act.eval,Act.put]) A m (c - (i+1)) news (by simp [Act.eval,Act.put]) hl hsrc.out h1c.out (by omega) hspare.out ?_;rw [Nat.zero_add,← HW1.out])
 go_wp2
 go_ret
 exact ⟨rfl,zk5.out⟩
theorem zaa {α:Type} {R:Rd α} {size:Nat} {e:TypeId} {A:Option Addr} {n m c d:Nat} {xs ys:List α} (k:Nat) (h:(ah R size e A n c xs).S k):(ah R size e A m d ys).S k:=by
 cases A with
 |none=>simp [ah,Value.ownBlock] at h
 |some a=>simpa [ah,Value.ownBlock] using h
theorem qtf {w0:World} {D:List Fact} {A:Option Addr} {c i:Nat} {L:List Or} {x y:Int} {j:Nat} (hx:x=(i:Int)) (hy:y=(i:Int)+1) (hi:i < L.length) (hj:D[j]?=some (ah eu 12 54 A L.length c L)) :
  qm Tryz.prog w0 D 132 #[.slice A L.length c,.int .i64 x,.int .i64 y] Unit (fun _=>.slice A (L.eraseIdx i).length c) (fun _=>D.set j (ah eu 12 54 A (L.eraseIdx i).length c (L.eraseIdx i))):=by
 subst hx hy
 refine qw4 hj zaa (Ko E9) (fun w h hb=>?_)
 obtain ⟨g,rfl,_,_⟩:=um.Eo h (by omega)
 refine (q58 g c i (L.length - (i+1)) L w h (by omega)).mono ?_
 rintro e w' ⟨rfl,h1,h2⟩
 refine ⟨rfl,h1,⟨h2.os,h2.tape,h2.output,h2.size,fun k hk hS=>h2.block k hk (fun e=>hS ?_)⟩⟩
 simp only [ah,Value.ownBlock];rw [e]
theorem bn {P:Program} {w0:World} {D D' Q:List Fact} {f:FuncId} {args:Array Value} {α:Type} {r:α→Value} {fs:α→List Fact} (ht:iw w0 D' (D++Q)) (h:qm P w0 D f args α r fs):qm P w0 D' f args α r (fun x=>fs x++Q):=by
 intro w hw ha hs hp hy
 obtain ⟨t1,t2,t3,t4⟩:=ht hs hp
 rw [List.pairwise_append] at t2
 have hall:=Bf.1 (t4 w hw ha)
 have Ug:∀ f ∈ D++Q,∀ k,f.S k→w0.heap.size≤k∧k < w.heap.size:=fun f hf k hk=>by
  obtain ⟨g,hg,hgk⟩:=t3 f hf k hk
  exact hy g hg k hgk
 refine (h w hw (Bf.2 fun f hf=>hall f (List.mem_append_left _ hf)) (fun f hf=>t1 f (List.mem_append_left _ hf)) t2.1 (fun f hf=>Ug f (List.mem_append_left _ hf))).mono ?_
 rintro e w' ⟨x,rfl,hb,hfr,hn⟩
 have hmore:∀ k,anyS D k→anyS D' k:=fun k ⟨f,hf,hk⟩=>t3 f (List.mem_append_left _ hf) k hk
 have hQ:∀ f ∈ Q,∀ k,f.S k→¬ anyS D k:=fun f hf k hk ⟨g,hg,hgk⟩=>t2.2.2 g hg f hf k hgk hk
 refine ⟨x,rfl,hb,fun k h1 h2 h3=>hfr k h1 h2 (fun h4=>h3 (hmore k h4)),⟨Bf.2 fun f hf=>?_,fun f hf k hk=>?_,?_,fun f hf=>?_⟩⟩
 ·rcases List.mem_append.1 hf with hf | hf
  ·exact Bf.1 hn.all f hf
  ·refine t1 f (List.mem_append_right _ hf) w w' (fun k hk=>?_) (hall f (List.mem_append_right _ hf))
   have:=Ug f (List.mem_append_right _ hf) k hk
   exact hfr k this.1 this.2 (hQ f hf k hk)
 ·rcases List.mem_append.1 hf with hf | hf
  ·have:=hn.ni f hf k hk
   exact ⟨this.1.imp (hmore k) id,this.2⟩
  ·have hk2:=Ug f (List.mem_append_right _ hf) k hk
   refine ⟨.inl (t3 f (List.mem_append_right _ hf) k hk),?_⟩
   rcases Nat.lt_or_ge k w'.heap.size with h1 | h1
   ·exact h1
   ·exfalso
    have e1:=hfr k hk2.1 hk2.2 (hQ f hf k hk)
    rw [Array.getElem?_eq_none h1,Array.getElem?_eq_getElem hk2.2] at e1
    cases e1
 ·rw [List.pairwise_append]
  refine ⟨hn.apart,t2.2.1,fun f hf q hq k hk hk2=>?_⟩
  rcases (hn.ni f hf k hk).1 with h1 | h1
  ·exact hQ q hq k hk2 h1
  ·have:=(Ug q (List.mem_append_right _ hq) k hk2).2;omega
 ·rcases List.mem_append.1 hf with hf | hf
  ·exact hn.stable f hf
  ·exact t1 f (List.mem_append_right _ hf)
theorem Qq {w:World} {v:Sv} {s:St} (ho:um eu 12 w 0 54 (fun _=>False) v.A1 s.os.length v.c1 s.os) (hc:um gu 4 w 0 60 (fun _=>False) v.A2 s.cs.length v.c2 s.cs) (hl:um je 3 w 0 51 (fun _=>False) v.A3 s.ls.length v.c3 s.ls) (hk:um (bf .i64) 1 w 0 2 (fun _=>False) v.A4 s.ps.length v.c4 s.ps)
  (hf:frame.jh s.a∧frame.jh s.y∧frame.jh s.last∧frame.jh s.seq∧frame.jh s.ng):lu w (Lt w.heap.size) v s :=
 ⟨ho.reads E9 (by decide),hc.reads zn (by decide),hl.reads Fq (by decide),hk.reads (pz _) (by decide),ho.cap,hc.cap,hl.cap,hk.cap,hf⟩
end Go.Proofs.YtbbjlfbemibfcaaGreat.book
end
section
namespace Go.Proofs.YtbbjlfbemibfcaaGreat.book
open Go.RowKit Go.Proofs.YtbbjlfbemibfcaaGreat
open Go.Proofs.YtbbjlfbemibfcaaGreat.order (Or open_ worth)
open Go.Proofs.YtbbjlfbemibfcaaGreat.cell (Ce Ex)
open Go.Proofs.YtbbjlfbemibfcaaGreat.rec (Rc)
set_option maxRecDepth 20000
open Go.Proofs.YtbbjlfbemibfcaaGreat.order (oz)
structure xk (s:St):Prop where
 o:∀ o ∈ s.os,o.fine
 c:∀ c ∈ s.cs,c.fine
 n:frame.jh s.a∧frame.jh s.y∧frame.jh s.last∧frame.jh s.seq∧frame.jh s.ng
theorem q59 (v:Sv) (s:St) (i:Nat) (c:Ce):bg v { s with cs:=s.cs.set i c }=bg v s:=by unfold bg;simp only [List.length_set]
theorem q21 {s:St} {i:Nat} {c:Ce} (h:Lens s):Lens { s with cs:=s.cs.set i c }:=⟨h.1,by show ((s.cs.set i c).length:Int)=_;rw [List.length_set];exact h.2.1,h.2.2.1,h.2.2.2⟩
theorem qmf {s:St} {a b:Int} (hL:Lens s) (ht:There s a b):place s.y a b < s.ls.length∧a.toNat < s.ps.length:=by
 have h:=Dc hL ht
 have h1:=hL.2
 obtain ⟨g1,g2,_⟩:=ht
 omega
def Gt (s:St) (o:Or) (c:Ce):Int :=
 if (vk { s with cs:=s.cs.set (place s.y o.a o.y) c } o).2.2=0 then (if limit.against (vk s o).1 (vk { s with cs:=s.cs.set (place s.y o.a o.y) c } o).1 (s.ls.getD (place s.y o.a o.y) xz)=true∨limit.cap (vk s o).2.1 (vk { s with cs:=s.cs.set (place s.y o.a o.y) c } o).2.1 (s.ps.getD o.a.toNat 0)=true then 4 else 0)
 else (vk { s with cs:=s.cs.set (place s.y o.a o.y) c } o).2.2
section
variable {s:St} {o:Or} {c:Ce}
theorem qz9 (h:¬ (vk { s with cs:=s.cs.set (place s.y o.a o.y) c } o).2.2=0):Gt s o c=(vk { s with cs:=s.cs.set (place s.y o.a o.y) c } o).2.2:=if_neg h
theorem qtg (h:(vk { s with cs:=s.cs.set (place s.y o.a o.y) c } o).2.2=0) (h2:limit.against (vk s o).1 (vk { s with cs:=s.cs.set (place s.y o.a o.y) c } o).1 (s.ls.getD (place s.y o.a o.y) xz)=true∨limit.cap (vk s o).2.1 (vk { s with cs:=s.cs.set (place s.y o.a o.y) c } o).2.1 (s.ps.getD o.a.toNat 0)=true):Gt s o c=4:=by unfold Gt;rw [if_pos h,if_pos h2]
theorem q0a (h:(vk { s with cs:=s.cs.set (place s.y o.a o.y) c } o).2.2=0) (h2:limit.against (vk s o).1 (vk { s with cs:=s.cs.set (place s.y o.a o.y) c } o).1 (s.ls.getD (place s.y o.a o.y) xz)=false) (h3:limit.cap (vk s o).2.1 (vk { s with cs:=s.cs.set (place s.y o.a o.y) c } o).2.1 (s.ps.getD o.a.toNat 0)=false):Gt s o c=0:=by unfold Gt;rw [if_pos h,if_neg (by rw [h2,h3];simp)]
end
theorem Y3 (v:Sv) (s:St) (o:Or) (c:Ce) (g:Nat) (hL:Lens s) (ht:There s o.a o.y) (hF:xk s) (hof:o.fine) (hcf:c.fine) (hw0:(vk s o).2.2=0) (w:World):qm Tryz.prog w (dw g (bg v s) 79 :: [ah eu 12 54 v.A1 s.os.length v.c1 s.os,ah gu 4 60 v.A2 s.cs.length v.c2 s.cs,ah je 3 51 v.A3 s.ls.length v.c3 s.ls,ah (bf .i64) 1 2 v.A4 s.ps.length v.c4 s.ps]) 102 #[.pointer (some ⟨g,0,none⟩),.agg (order.oc o),.agg (cell.cc c)] (Unit) (fun x=>.int .i64 (Gt s o c)) (fun x=>dw g (bg v s) 79 :: [ah eu 12 54 v.A1 s.os.length v.c1 s.os,ah gu 4 60 v.A2 s.cs.length v.c2 (s.cs.set (place s.y o.a o.y) c),ah je 3 51 v.A3 s.ls.length v.c3 s.ls,ah (bf .i64) 1 2 v.A4 s.ps.length v.c4 s.ps]) :=
 have hpl:=Dc hL ht
 have hpl2:=qmf hL ht
 Ql (fn:=Tryz.f102) (r:=fun (x:Unit)=>.int .i64 (Gt s o c)) (cs:=fun (x:Unit)=>(bg v s)) (fs:=fun (x:Unit)=>[ah eu 12 54 v.A1 s.os.length v.c1 s.os,ah gu 4 60 v.A2 s.cs.length v.c2 (s.cs.set (place s.y o.a o.y) c),ah je 3 51 v.A3 s.ls.length v.c3 s.ls,ah (bf .i64) 1 2 v.A4 s.ps.length v.c4 s.ps]) (t:=fun fr=>let k0:=place s.y o.a o.y;let k1:=s.cs.set k0 c;let k2:=s.ps.getD o.a.toNat 0; .cB 0 (.tuple #[.agg (cell.xc ((vk s o).1)),.int .i64 ((vk s o).2.1),.int .i64 ((vk s o).2.2)]) (.m false (.cB 0 (.int .i64 (Bg s o.a o.y)) (.ow [] [oO v.A1 s.os.length v.c1 s.os,Jq gu 4 60 v.A2 s.cs.length v.c2,oX v.A3 s.ls.length v.c3 s.ls,oI v.A4 s.ps.length v.c4 s.ps,fr] (.x (.pointer (some ⟨au v.A2,ay v.A2+k0 * 4,none⟩)) (.w (Unit) (some 1) (fun x=>undef) (fun x=>[oC v.A2 s.cs.length v.c2 k1]) (fun x1=>.cB 0 (.tuple #[.agg (cell.xc ((vk ({ s with cs:=k1 }) o).1)),.int .i64 ((vk ({ s with cs:=k1 }) o).2.1),.int .i64 ((vk ({ s with cs:=k1 }) o).2.2)]) (.s .z (.o [] (.q (au v.A3) (ay v.A3+k0 * 3) (cell.xc (s.ls.getD k0 xz)) (.cs (limit.against ((vk s o).1) ((vk ({ s with cs:=k1 }) o).1) (s.ls.getD k0 xz)) (.k .z) (.k (.q (au v.A4) (ay v.A4+o.a.toNat * 1) #[.int .i64 k2] (.cs (limit.cap ((vk s o).2.1) ((vk ({ s with cs:=k1 }) o).2.1) k2) .z .z)))))))))))))) (X:=fun fr=>let k5:=place s.y o.a o.y;let k1:=s.cs.set k5 c;let k0:List Fact:=[oC v.A2 s.cs.length v.c2 k1,oO v.A1 s.os.length v.c1 s.os,oX v.A3 s.ls.length v.c3 s.ls,oI v.A4 s.ps.length v.c4 s.ps,fr];let k2:=[oO v.A1 s.os.length v.c1 s.os,oC v.A2 s.cs.length v.c2 k1,oX v.A3 s.ls.length v.c3 s.ls,oI v.A4 s.ps.length v.c4 s.ps]++[fr];let k3:List Fact:=[oO v.A1 s.os.length v.c1 s.os,oC v.A2 s.cs.length v.c2 s.cs,oX v.A3 s.ls.length v.c3 s.ls,oI v.A4 s.ps.length v.c4 s.ps,fr];let k4:List Fact:=[oO v.A1 s.os.length v.c1 s.os,Jq gu 4 60 v.A2 s.cs.length v.c2,oX v.A3 s.ls.length v.c3 s.ls,oI v.A4 s.ps.length v.c4 s.ps,fr];let k6:=(some ⟨g,0,(bg v s),.own 79⟩:Option jv);let k7:Array Value:=#[.pointer (some ⟨g,0,none⟩),.agg (order.oc o)];let k8:=s.ps.getD o.a.toNat 0;let k9:=(vk s o).2.1;let k10:=s.ls.getD k5 xz;let k11:=(vk s o).1;let k12:Value:=.pointer (some ⟨au v.A2,ay v.A2+k5 * 4,none⟩);let k13:Value:=.int .i64 (Bg s o.a o.y);let k14:List Fact:=[dw g (bg v s) 79]; ∀ g1:Nat,∀ g2:Nat,iq Tryz.prog w (k3++k14) 124 k7 (.tuple #[.agg (cell.xc k11),.int .i64 k9,.int .i64 ((vk s o).2.2)])∧∀ g3:Nat,(!decide (((vk s o).2.2)=0))=false∧iq Tryz.prog w (k3++k14) 101 k7 k13∧qp w k3 k4∧jd Tryz.prog w k4 (Instr.indexAt 23 (.slice v.A2 s.cs.length v.c2) k13) k12∧(∀ x:Unit,qp w k0 k4)∧Hu Tryz.prog w k3 (Instr.storeAt 60 k12 (.agg (cell.cc c))) ((oC v.A2 s.cs.length v.c2 s.cs).S) (Unit) (fun x=>undef) (fun x=>[oC v.A2 s.cs.length v.c2 k1])∧∀ x1:Unit,iq Tryz.prog w (k0++k14) 124 k7 (.tuple #[.agg (cell.xc ((vk ({ s with cs:=k1 }) o).1)),.int .i64 ((vk ({ s with cs:=k1 }) o).2.1),.int .i64 ((vk ({ s with cs:=k1 }) o).2.2)])∧∀ g4:Nat,((!decide (((vk ({ s with cs:=k1 }) o).2.2)=0))=true→∃ x:Unit,(.int .i64 ((vk ({ s with cs:=k1 }) o).2.2):Value) = .int .i64 (Gt s o c)∧k6=some ⟨g,0,(bg v s),.own 79⟩∧iw w k0 k2)∧((!decide (((vk ({ s with cs:=k1 }) o).2.2)=0))=false→jd Tryz.prog w k0 (Instr.indexAt 24 (.slice v.A3 s.ls.length v.c3) k13) (.pointer (some ⟨au v.A3,ay v.A3+k5 * 3,none⟩))∧o7 w k0 (au v.A3) (ay v.A3+k5 * 3) (cell.xc k10)∧iq Tryz.prog w k0 125 #[.agg (cell.xc k11),.agg (cell.xc ((vk ({ s with cs:=k1 }) o).1)),.agg (cell.xc k10)] (.bool (limit.against k11 ((vk ({ s with cs:=k1 }) o).1) k10))∧((limit.against k11 ((vk ({ s with cs:=k1 }) o).1) k10)=true→∃ x:Unit,(.int .i64 4:Value) = .int .i64 (Gt s o c)∧k6=some ⟨g,0,(bg v s),.own 79⟩∧iw w k0 k2)∧((limit.against k11 ((vk ({ s with cs:=k1 }) o).1) k10)=false→jd Tryz.prog w k0 (Instr.indexAt 25 (.slice v.A4 s.ps.length v.c4) (.int .i64 o.a)) (.pointer (some ⟨au v.A4,ay v.A4+o.a.toNat * 1,none⟩))∧o7 w k0 (au v.A4) (ay v.A4+o.a.toNat * 1) #[.int .i64 k8]∧iq Tryz.prog w k0 126 #[.int .i64 k9,.int .i64 ((vk ({ s with cs:=k1 }) o).2.1),.int .i64 k8] (.bool (limit.cap k9 ((vk ({ s with cs:=k1 }) o).2.1) k8))∧((limit.cap k9 ((vk ({ s with cs:=k1 }) o).2.1) k8)=true→∃ x:Unit,(.int .i64 4:Value) = .int .i64 (Gt s o c)∧k6=some ⟨g,0,(bg v s),.own 79⟩∧iw w k0 k2)∧((limit.cap k9 ((vk ({ s with cs:=k1 }) o).2.1) k8)=false→∃ x:Unit,(.int .i64 0:Value) = .int .i64 (Gt s o c)∧k6=some ⟨g,0,(bg v s),.own 79⟩∧iw w k0 k2)))) Tryz.func102 rfl (fun fr=>by kernel_rfl)
 (fun fr=>fun g1=>fun g2=>⟨(fun w2 hw ha=>qz4 v s o g w2 (Ux (Ah (j:=5) rfl w2 ha)) (Qq (ji (j:=0) rfl w2 ha) (ji (j:=1) rfl w2 ha) (ji (j:=2) rfl w2 ha) (ji (j:=3) rfl w2 ha) hF.n) hL ht),fun g3=>⟨by simp only [dq];omega,⟨(fun w2 hw ha=>Uy v s o g w2 (Ux (Ah (j:=5) rfl w2 ha))),⟨fun w _ ha=>⟨ha.1,⟨_,ha.2.1⟩,ha.2.2.1,ha.2.2.2.1,ha.2.2.2.2.1,trivial⟩,⟨(Gp hpl.1 (Pq Tryz.underlying23 yg (i:=1) rfl hpl.2)),⟨fun x w _ ha=>⟨ha.2.1,⟨_,ha.1⟩,ha.2.2.1,ha.2.2.2.1,ha.2.2.2.2.1,trivial⟩,(Ue zn Nv yg (ji (j:=1) rfl) hpl.2 rfl (fun _=>⟨rfl,hcf⟩)),fun x1=>⟨(fun w2 hw ha=>by have:=qz4 v ({ s with cs:=(s.cs.set (place s.y o.a o.y) c) }) o g w2 (by rw [q59];exact Ux (Ah (j:=5) rfl w2 ha)) (Qq (ji (j:=1) rfl w2 ha) (by rw [show (({ s with cs:=(s.cs.set (place s.y o.a o.y) c) } : St).cs.length)=s.cs.length from List.length_set];exact (ji (j:=0) rfl w2 ha)) (ji (j:=2) rfl w2 ha) (ji (j:=3) rfl w2 ha) hF.n) (q21 hL) ht;exact this),fun g4=>⟨fun h2=>have h2:¬ ((vk ({ s with cs:=(s.cs.set (place s.y o.a o.y) c) }) o).2.2)=0:=(by simpa using h2)
⟨(),by rw [qz9 h2],rfl,(oq [1,0,2,3,4] (by decide) rfl)⟩,
 fun h2=>have h2:((vk ({ s with cs:=(s.cs.set (place s.y o.a o.y) c) }) o).2.2)=0:=(by simpa using h2)
⟨(Gp hpl.1 (Gn Tryz.underlying24 Es (ji (j:=2) rfl) hpl2.1)),(Hw Fq (by decide) Gq (ji (j:=2) rfl) (ou (by exact hpl2.1))),⟨qzv,fun h3=>⟨(),by rw [qtg h2 (.inl h3)],rfl,(oq [1,0,2,3,4] (by decide) rfl)⟩,
 fun h3=>⟨(Gp (Int.toNat_of_nonneg ht.1).symm (Gn Tryz.underlying25 qb0 (ji (j:=3) rfl) hpl2.2)),(Hw (pz _) (by decide) Gw (ji (j:=3) rfl) (ou (by exact hpl2.2))),⟨q94,fun h4=>⟨(),by rw [qtg h2 (.inr h4)],rfl,(oq [1,0,2,3,4] (by decide) rfl)⟩,
 fun h4=>⟨(),by rw [q0a h2 h3 h4],rfl,(oq [1,0,2,3,4] (by decide) rfl)⟩⟩⟩⟩⟩⟩⟩⟩⟩⟩⟩⟩⟩)
end Go.Proofs.YtbbjlfbemibfcaaGreat.book
end
section
namespace Go.Proofs.YtbbjlfbemibfcaaGreat.book
set_option maxRecDepth 20000
open Go.RowKit Go.Proofs.YtbbjlfbemibfcaaGreat
open Go.Proofs.YtbbjlfbemibfcaaGreat.order (Or Nt open_ worth oz)
open Go.Proofs.YtbbjlfbemibfcaaGreat.cell (Ce Ex)
open Go.Proofs.YtbbjlfbemibfcaaGreat.rec (Rc)
def bs (s:St) (r:Rc):St:={ s with os:=s.os++[(order.jl r).1],last:=(order.jl r).1.i }
def sz (s:St) (r:Rc):St:={ s with seq:=r.z }
theorem qjq (v:Sv) (s:St) (i:Nat) (o:Or):bg v { s with os:=s.os.set i o }=bg v s:=by unfold bg;simp only [List.length_set]
theorem q22 (os:List Or) (id:Int):Aa os id = -1∨0≤Aa os id:=by unfold Aa;split<;>omega
theorem Am {os:List Or} {id:Int} (h:¬ Aa os id = -1):¬ Aa os id < 0:=by have:=q22 os id;omega
theorem qoa {os:List Or} {id:Int} (h:Aa os id = -1):Aa os id < 0:=by omega
section
variable {s:St} {r:Rc}
theorem q6a (hk:r.k=1) (hr:rec.right r=true):(order.jl r).2=0:=by unfold order.jl;rw [if_pos ⟨hk,hr⟩]
theorem qia (hk:r.k=1) (hr:rec.right r=true) (hra:r.a < s.a∧r.y < s.y):There s (order.jl r).1.a (order.jl r).1.y:=by
 have h:=qn3 hk hr
 have h1:=h.1.1
 exact ⟨by omega,by rw [h.2.1];exact hra.1,by omega,by rw [h.2.2];exact hra.2⟩
theorem qo (hs:aj s) {k:Nat} (hk:k < s.os.length):There s (s.os.getD k oz).a (s.os.getD k oz).y:=by
 have h:=hs.2.2.2.1.1 _ (l7 (z:=oz) hk)
 have h1:=h.1.1
 exact ⟨by omega,h.2.2.1,by omega,h.2.2.2.1⟩
theorem Vz (hs:aj s) {o:Or} (ht:There s o.a o.y):(vk s o).2.2=0:=by
 have hp:=Dc (Lens.of hs) ht
 have hc:=(hs.2.2.2.2.2.2.1.2.1 _ (l7 (z:=cz) hp.2)).2
 have h0:(cell.Ba (s.cs.getD (place s.y o.a o.y) cz)).2=0:=by unfold cell.Ba;rw [if_pos (cell.dh.2 hc)]
 rw [qin h0]
 exact hs.2.2.2.2.2.2.1.2.2 o.a.toNat (by have:=ht;simp;obtain ⟨g1,g2,_⟩:=ht;omega)
end
end Go.Proofs.YtbbjlfbemibfcaaGreat.book
end
