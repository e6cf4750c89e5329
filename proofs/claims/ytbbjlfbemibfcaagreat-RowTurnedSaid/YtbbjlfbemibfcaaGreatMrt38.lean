/-
  BookI6
-/
import Derived.Test.YtbbjlfbemibfcaaGreatMrt37
import Derived.Deep.RegionLaw
import Derived.Lib.SliceRun
set_option linter.unusedVariables false
set_option linter.unusedSimpArgs false
namespace Go.Proofs.YtbbjlfbemibfcaaGreat.book
set_option maxRecDepth 20000
open Go.RowKit Go.Proofs.YtbbjlfbemibfcaaGreat
open Go.Proofs.YtbbjlfbemibfcaaGreat.order (Or Nt open_ worth oz)
open Go.Proofs.YtbbjlfbemibfcaaGreat.cell (Ce Ex)
open Go.Proofs.YtbbjlfbemibfcaaGreat.rec (Rc)
theorem each_erase {α:Type} {R:Rd α} {size:Nat} {w:World} {S:Nat→Prop} : ∀ {css:List (List Value)} {xs:List α} (i:Nat),Each R size w S css xs→Each R size w S (css.eraseIdx i) (xs.eraseIdx i)
 | [],[],_,_=>trivial
 | [],_ :: _,_,h=>h.elim
 | _ :: _,[],_,h=>h.elim
 | _ :: _,_ :: _,0,h=>h.2.2
 | _ :: _,_ :: _,i+1,h=>⟨h.1,h.2.1,each_erase i h.2.2⟩
theorem flat_erase {size:Nat} : ∀ (css:List (List Value)) (i:Nat),(∀ x ∈ css,x.length=size)→i < css.length→(css.eraseIdx i).flatten=css.flatten.take (i * size)++css.flatten.drop (i * size+size)
 | [],i,_,h=>by simp at h
 |x :: css,0,h,_=>by
  have hx:=h x (by simp)
  simp [← hx]
 |x :: css,i+1,h,hi=>by
  have hx:=h x (by simp)
  have ih:=flat_erase css i (fun y hy=>h y (by simp [hy])) (by simpa using hi)
  rw [List.eraseIdx_cons_succ,List.flatten_cons,ih,List.flatten_cons]
  have e1:(i+1) * size=x.length+i * size:=by rw [hx,Nat.succ_mul];omega
  rw [e1,List.take_length_add_append,Nat.add_assoc,List.drop_length_add_append]
  simp
theorem each_w {α:Type} {R:Rd α} {size:Nat} {w w' : World} {S:Nat→Prop} (hF:∀ {cs x},R w S cs x→R w' S cs x):∀ {css:List (List Value)} {xs:List α},Each R size w S css xs→Each R size w' S css xs
 | [],[],_=>trivial
 | [],_ :: _,h=>h.elim
 | _ :: _,[],h=>h.elim
 | _ :: _,_ :: _,h=>⟨h.1,hF h.2.1,each_w hF h.2.2⟩
theorem each_order {w w' : World} {S:Nat→Prop} {css:List (List Value)} {xs:List Or} (h:Each rdOrder 12 w S css xs):Each rdOrder 12 w' S css xs:=each_w (w:=w) (w':=w') (fun h=>h) h
abbrev zeroOrder:List Value:=[.int .i64 0,.int .i64 0,.int .i64 0,.int .i64 0,.int .i64 0,.int .i64 0,.int .i64 0,.int .i64 0,.int .i64 0,.int .i64 0,.int .i64 0,.bool false]
theorem clear_one (w:World) (ty:TypeId) (g o c:Nat) (hc:∀ j,j < 12→(w.cell? ⟨g,o+j,none⟩).isSome=true) (hf:∀ j,j < 12→w.frozen? ⟨g,o+j,none⟩=false) :
  (Builtin.clear_ #[22] ty #[.slice (some ⟨g,o,none⟩) 1 c]).run Tryz.prog w = .ok (.tuple #[]) (w.setCells g o zeroOrder):=by
 have hv:(zeroValue 54).run Tryz.prog w = .ok (.agg zeroOrder.toArray) w:=by kernel_rfl
 have hzc:(Builtin.zeroCells (Value.agg zeroOrder.toArray).cells 1).toList=zeroOrder:=by kernel_rfl
 have hst:=run_storeCells_cells (P:=Tryz.prog) g o zeroOrder 0 w (by simpa using hc) (by simpa using hf) (by intro v hv';simp [zeroOrder] at hv';rcases hv' with rfl | rfl<;>rfl)
 simp only [Nat.add_zero] at hst
 simp [Builtin.clear_,run_underlying Tryz.underlying22,hv,hzc,hst]
theorem cur_less (cur:List Value) (zs:List Value) (size i m:Nat) (hz:zs.length=size) (hl:(i+1+m) * size≤cur.length) :
  let c1:=cur.take (i * size)++(cur.drop ((i+1) * size)).take (m * size)++cur.drop (i * size+m * size)
  (c1.take ((i+m) * size)++zs++c1.drop ((i+m) * size+size)).length=cur.length∧(c1.take ((i+m) * size)++zs++c1.drop ((i+m) * size+size)).take ((i+m) * size)=(cur.take ((i+1+m) * size)).take (i * size)++(cur.take ((i+1+m) * size)).drop (i * size+size):=by
 intro c1
 have e1:(i+1+m) * size=i * size+size+m * size:=by rw [Nat.add_mul,Nat.succ_mul]
 have e2:(i+m) * size=i * size+m * size:=Nat.add_mul _ _ _
 have e3:(i+1) * size=i * size+size:=Nat.succ_mul _ _
 have hA:(cur.take (i * size)).length=i * size:=by rw [List.length_take];omega
 have hB:((cur.drop ((i+1) * size)).take (m * size)).length=m * size:=by rw [List.length_take,List.length_drop];omega
 have hc1:c1.length=cur.length:=by
  show (cur.take (i * size)++(cur.drop ((i+1) * size)).take (m * size)++cur.drop (i * size+m * size)).length=_
  rw [List.length_append,List.length_append,hA,hB,List.length_drop];omega
 have ht:c1.take ((i+m) * size)=cur.take (i * size)++(cur.drop ((i+1) * size)).take (m * size):=by
  show (cur.take (i * size)++(cur.drop ((i+1) * size)).take (m * size)++cur.drop (i * size+m * size)).take _=_
  rw [e2,List.take_append_of_le_length (by rw [List.length_append,hA,hB];omega),List.take_of_length_le (by rw [List.length_append,hA,hB];omega)]
 refine ⟨?_,?_⟩
 ·rw [List.length_append,List.length_append,List.length_take,List.length_drop,hc1,hz];omega
 ·rw [List.append_assoc,List.take_append_of_le_length (by rw [ht,List.length_append,hA,hB];omega),List.take_of_length_le (by rw [ht,List.length_append,hA,hB];omega),ht]
  rw [List.take_take,Nat.min_eq_left (by omega),List.drop_take,e1,e3]
  congr 2
  omega
theorem each_one {α:Type} {R:Rd α} (hL:Leaf R) {size:Nat} {w:World} {S:Nat→Prop} : ∀ {css:List (List Value)} {xs:List α},Each R size w S css xs→∀ u ∈ css.flatten,u.oneCell'=true
 | [],_,_,u,hu=>by simp at hu
 | _ :: _,[],h,_,_=>h.elim
 |cs :: css,x :: xs,h,u,hu=>by
  rw [List.flatten_cons,List.mem_append] at hu
  rcases hu with hu | hu
  ·exact hL _ _ _ _ h.2.1 u hu
  ·exact each_one hL h.2.2 u hu
set_option maxRecDepth 100000 in
set_option maxHeartbeats 4000000 in
theorem ldelete (g c i m:Nat) (L:List Or) (w:World) (h:OwnElems rdOrder 12 w 0 54 (fun _=>False) (some ⟨g,0,none⟩) L.length c L) (him:L.length=i+1+m) :
  Calls Tryz.prog 132 #[.slice (some ⟨g,0,none⟩) L.length c,.int .i64 (i:Nat),.int .i64 ((i:Int)+1)] w fun e w'=>e = .returned (.slice (some ⟨g,0,none⟩) (L.eraseIdx i).length c) ∧
   OwnElems rdOrder 12 w' 0 54 (fun _=>False) (some ⟨g,0,none⟩) (L.eraseIdx i).length c (L.eraseIdx i)∧Frame0 (fun k=>k=g) w w':=by
 have hle:(L.eraseIdx i).length=i+m:=by rw [List.length_eraseIdx,if_pos (by omega)];omega
 obtain ⟨css,⟨hcl,hrow⟩,hE,hlen⟩:=h
 rcases hrow with ⟨hv,_⟩ | ⟨g',cap,cur,hv,_,hg,hnc,hcm,hsz,hcur⟩
 ·simp at hv
 simp only [Value.slice.injEq,Option.some.injEq,Addr.mk.injEq,and_true,true_and] at hv
 obtain ⟨rfl,rfl⟩:=hv
 rw [hle]
 rw [him] at hcl hcur hnc ⊢
 have hcl2:css.length=i+1+m:=by rw [hE.len.1,him]
 obtain ⟨news,hnews⟩:∃ news,news=(cur.toList.drop ((i+1) * 12)).take (m * 12):=⟨_,rfl⟩
 have hl:news.length=m * 12:=by rw [hnews,List.length_take,List.length_drop,Array.length_toList,hsz];omega
 have hget:∀ t,t < m * 12→news[t]?=cur[(i+1) * 12+t]?:=fun t ht=>by rw [hnews,List.getElem?_take,if_pos ht,List.getElem?_drop,Array.getElem?_toList]
 have h1c:Hid (∀ u ∈ news,u.oneCell'=true):=Lib.hid (fun u hu=>by
  refine each_one leaf_order hE u ?_
  rw [← hcur]
  obtain ⟨t,ht,e⟩:=List.getElem_of_mem hu
  refine List.mem_of_getElem? (i:=(i+1) * 12+t) ?_
  rw [List.getElem?_take,if_pos (by omega),Array.getElem?_toList,← hget t (by omega),List.getElem?_eq_getElem ht,e])
 have hcell:∀ (W:World) (cu:Array Value),W.heap[g]?=some (.cells cu 54 (0,0))→cu.size=c * 12→∀ k,k < c * 12→(W.cell? ⟨g,k,none⟩).isSome=true∧W.frozen? ⟨g,k,none⟩=false:=fun W cu h hs k hk=>by
  have:=block_cell h k cu[k] (Array.getElem?_eq_getElem (by omega))
  exact ⟨by rw [this.1];rfl,this.2⟩
 have hcz:cur.toList.length=c * 12:=by rw [Array.length_toList,hsz]
 obtain ⟨W1,hW1⟩:∃ W1,W1=w.drew.setCells g (i * 12) news:=⟨_,rfl⟩
 have hE1:=setCells_row (T:=54) (g:=g) news (i * 12) w.drew cur.toList (by simpa using (show w.drew.heap[g]?=some (.cells cur 54 (0,0)) from hg)) (by omega)
 rw [← hW1,hl] at hE1
 have hcl0:=cur_less cur.toList zeroOrder 12 i m rfl (by rw [hcz];omega)
 simp only [← hnews] at hcl0
 have hcl1:=Lib.hid hcl0
 clear hcl0
 have hs1:Hid ((cur.toList.take (i * 12)++news++cur.toList.drop (i * 12+m * 12)).length=c * 12):=Lib.hid (by
  rw [List.length_append,List.length_append,List.length_take,List.length_drop,hl,hcz];omega)
 have hE2:=setCells_row (T:=54) (g:=g) zeroOrder ((i+m) * 12) W1 _ hE1 (by rw [hs1.out];show (i+m) * 12+12≤c * 12;omega)
 have hk1:=hcell W1 _ hE1 (by rw [List.size_toArray];exact hs1.out)
 have hclr:∀ ty cc,(Builtin.clear_ #[22] ty #[.slice (some ⟨g,(i+m) * 12,none⟩) 1 cc]).run Tryz.prog W1 = .ok (.tuple #[]) (W1.setCells g ((i+m) * 12) zeroOrder):=fun ty cc =>
  clear_one W1 ty g ((i+m) * 12) cc (fun j hj=>(hk1 _ (by omega)).1) (fun j hj=>(hk1 _ (by omega)).2)
 have HFIN:Hid (OwnElems rdOrder 12 (W1.setCells g ((i+m) * 12) zeroOrder) 0 54 (fun _=>False) (some ⟨g,0,none⟩) (i+m) c (L.eraseIdx i)∧Frame0 (fun k=>k=g) w (W1.setCells g ((i+m) * 12) zeroOrder)):=Lib.hid (by
  have hfl:=flat_erase css i hE.lens (by omega)
  refine ⟨⟨css.eraseIdx i,⟨?_,.inr ⟨g,c,_,rfl,Nat.zero_le _,hE2,by omega,hcm,?_,?_⟩⟩,each_order (each_erase i hE),hle⟩,?_⟩
  ·rw [hfl,List.length_append,List.length_take,List.length_drop,hcl];omega
  ·have:=hcl1.out.1
   rw [List.size_toArray]
   exact this.trans hcz
  ·have:=hcl1.out.2
   rw [hcur,← hfl] at this
   exact this
  ·refine ⟨?_,?_,?_,?_,fun k hk hx=>?_⟩
   ·rw [hW1];exact (setCells_below (Nat.zero_le _) _ _ _ (setCells_below (Nat.zero_le _) _ _ _ (Below.refl 0 w).drew)).os
   ·rw [hW1];exact (setCells_below (Nat.zero_le _) _ _ _ (setCells_below (Nat.zero_le _) _ _ _ (Below.refl 0 w).drew)).tape
   ·rw [hW1];exact (setCells_below (Nat.zero_le _) _ _ _ (setCells_below (Nat.zero_le _) _ _ _ (Below.refl 0 w).drew)).output
   ·rw [setCells_size,hW1,setCells_size];exact Nat.le_refl _
   ·rw [setCells_other hx,hW1,setCells_other hx];rfl)
 have HW1:=Lib.hid hW1
 have hspare:Hid (∀ j,j < news.length→(w.drew.cell? ⟨g,0+i * 12+j,none⟩).isSome=true∧w.drew.frozen? ⟨g,0+i * 12+j,none⟩=false):=Lib.hid (fun j hj=>hcell w.drew cur hg hsz _ (by omega))
 have hinfo:∃ i0:TypeInfo,Hid (Tryz.prog.info? 54=some i0)∧Hid (i0.size=12):=by
  refine ⟨(Tryz.prog.info? 54).getD default,Lib.hid (by kernel_rfl),Lib.hid (by kernel_rfl)⟩
 obtain ⟨i0,hi0,hz1⟩:=hinfo
 obtain ⟨A,hA,hsrc⟩:∃ A:Addr,(if c=i+1 then (some ⟨g,0,none⟩:Option Addr) else some ⟨g,(i+1) * 12,none⟩)=some A∧Hid (∀ t u,news[t]?=some u→w.drew.cell? (A.add t)=some u):=by
  by_cases h:c=i+1
  ·refine ⟨⟨g,0,none⟩,by simp [h],Lib.hid fun t u hu=>?_⟩
   have ht:=(List.getElem?_eq_some_iff.1 hu).1
   omega
  ·refine ⟨⟨g,(i+1) * 12,none⟩,by simp [h],Lib.hid fun t u hu=>?_⟩
   have ht:=(List.getElem?_eq_some_iff.1 hu).1
   rw [hget t (by omega)] at hu
   rw [Addr.add_lit]
   exact (block_cell (w:=w.drew) hg _ u hu).1
 have hw1:IntKind.i64.wrap ((i:Int)+1)=(i:Int)+1:=by rw [IntKind.wrap_i64];unfold maxLen at hcm;omega
 have htn:((i:Int)+1).toNat=i+1:=by omega
 have hic:i≤c:=by omega
 have hb1:(0:Int)≤(i:Int)+1:=by omega
 have hb2:(i:Int)+1≤(i:Int)+1+(m:Int):=by omega
 have hne2:¬ (c=i+m):=by omega
 have hic2:i+1≤c:=by omega
 have hsub:i+1+m - (i+m)=1:=by omega
 have hsub2:i+1+m - (i+1)=m:=by omega
 have hne:¬ ((i:Int)=(i:Int)+1):=by omega
 clear hg hcur hE hlen hE1 hE2 hW1 hcell hk1 hcz hnews hcl1 hs1 hget hcl2 hle him
 go_enter Tryz.func132,Tryz.ntmps132
 go_wp2_with fail
 go_region_law (refine step_append_room rfl (.tmp 22) (.tmp 25) 22 rfl 54 i0 12 Tryz.underlying22 hi0.out hz1.out g 0 i c (by simp [Act.eval,Act.put]) A m (c - (i+1)) news (by simp [Act.eval,Act.put]) hl hsrc.out h1c.out (by omega) hspare.out ?_;rw [Nat.zero_add,← HW1.out])
 go_wp2
 go_ret
 exact ⟨rfl,HFIN.out⟩
theorem own_S {α:Type} {R:Rd α} {size:Nat} {e:TypeId} {A:Option Addr} {n m c d:Nat} {xs ys:List α} (k:Nat) (h:(ownF R size e A n c xs).S k):(ownF R size e A m d ys).S k:=by
 cases A with
 |none=>simp [ownF,Value.ownBlock] at h
 |some a=>simpa [ownF,Value.ownBlock] using h
theorem l_delete {w0:World} {D:List Fact} {A:Option Addr} {c i:Nat} {L:List Or} {x y:Int} {j:Nat} (hx:x=(i:Int)) (hy:y=(i:Int)+1) (hi:i < L.length) (hj:D[j]?=some (ownF rdOrder 12 54 A L.length c L)) :
  GivesD Tryz.prog w0 D 132 #[.slice A L.length c,.int .i64 x,.int .i64 y] Unit (fun _=>.slice A (L.eraseIdx i).length c) (fun _=>D.set j (ownF rdOrder 12 54 A (L.eraseIdx i).length c (L.eraseIdx i))):=by
 subst hx hy
 refine gives_part hj own_S (ownF_stable keeps_order) (fun w h hb=>?_)
 obtain ⟨g,rfl,_,_⟩:=OwnElems.where_ h (by omega)
 refine (ldelete g c i (L.length - (i+1)) L w h (by omega)).mono ?_
 rintro e w' ⟨rfl,h1,h2⟩
 refine ⟨rfl,h1,⟨h2.os,h2.tape,h2.output,h2.size,fun k hk hS=>h2.block k hk (fun e=>hS ?_)⟩⟩
 simp only [ownF,Value.ownBlock];rw [e]
theorem gives_turn {P:Program} {w0:World} {D D' Q:List Fact} {f:FuncId} {args:Array Value} {α:Type} {r:α→Value} {fs:α→List Fact} (ht:Turns w0 D' (D++Q)) (h:GivesD P w0 D f args α r fs):GivesD P w0 D' f args α r (fun x=>fs x++Q):=by
 intro w hw ha hs hp hy
 obtain ⟨t1,t2,t3,t4⟩:=ht hs hp
 rw [List.pairwise_append] at t2
 have hall:=All_iff.1 (t4 w hw ha)
 have hyy:∀ f ∈ D++Q,∀ k,f.S k→w0.heap.size≤k∧k < w.heap.size:=fun f hf k hk=>by
  obtain ⟨g,hg,hgk⟩:=t3 f hf k hk
  exact hy g hg k hgk
 refine (h w hw (All_iff.2 fun f hf=>hall f (List.mem_append_left _ hf)) (fun f hf=>t1 f (List.mem_append_left _ hf)) t2.1 (fun f hf=>hyy f (List.mem_append_left _ hf))).mono ?_
 rintro e w' ⟨x,rfl,hb,hfr,hn⟩
 have hmore:∀ k,anyS D k→anyS D' k:=fun k ⟨f,hf,hk⟩=>t3 f (List.mem_append_left _ hf) k hk
 have hQ:∀ f ∈ Q,∀ k,f.S k→¬ anyS D k:=fun f hf k hk ⟨g,hg,hgk⟩=>t2.2.2 g hg f hf k hgk hk
 refine ⟨x,rfl,hb,fun k h1 h2 h3=>hfr k h1 h2 (fun h4=>h3 (hmore k h4)),⟨All_iff.2 fun f hf=>?_,fun f hf k hk=>?_,?_,fun f hf=>?_⟩⟩
 ·rcases List.mem_append.1 hf with hf | hf
  ·exact All_iff.1 hn.all f hf
  ·refine t1 f (List.mem_append_right _ hf) w w' (fun k hk=>?_) (hall f (List.mem_append_right _ hf))
   have:=hyy f (List.mem_append_right _ hf) k hk
   exact hfr k this.1 this.2 (hQ f hf k hk)
 ·rcases List.mem_append.1 hf with hf | hf
  ·have:=hn.young f hf k hk
   exact ⟨this.1.imp (hmore k) id,this.2⟩
  ·have hk2:=hyy f (List.mem_append_right _ hf) k hk
   refine ⟨.inl (t3 f (List.mem_append_right _ hf) k hk),?_⟩
   rcases Nat.lt_or_ge k w'.heap.size with h1 | h1
   ·exact h1
   ·exfalso
    have e1:=hfr k hk2.1 hk2.2 (hQ f hf k hk)
    rw [Array.getElem?_eq_none h1,Array.getElem?_eq_getElem hk2.2] at e1
    cases e1
 ·rw [List.pairwise_append]
  refine ⟨hn.apart,t2.2.1,fun f hf q hq k hk hk2=>?_⟩
  rcases (hn.young f hf k hk).1 with h1 | h1
  ·exact hQ q hq k hk2 h1
  ·have:=(hyy q (List.mem_append_right _ hq) k hk2).2;omega
 ·rcases List.mem_append.1 hf with hf | hf
  ·exact hn.stable f hf
  ·exact t1 f (List.mem_append_right _ hf)
theorem rows_in {w:World} {v:Sv} {s:St} (ho:OwnElems rdOrder 12 w 0 54 (fun _=>False) v.A1 s.os.length v.c1 s.os) (hc:OwnElems rdCell 4 w 0 60 (fun _=>False) v.A2 s.cs.length v.c2 s.cs) (hl:OwnElems rdExpo 3 w 0 51 (fun _=>False) v.A3 s.ls.length v.c3 s.ls) (hk:OwnElems (rdInt .i64) 1 w 0 2 (fun _=>False) v.A4 s.ps.length v.c4 s.ps)
  (hf:frame.inR s.a∧frame.inR s.y∧frame.inR s.last∧frame.inR s.seq∧frame.inR s.lsn):InS w (Lt w.heap.size) v s :=
 ⟨ho.reads keeps_order (by decide),hc.reads keeps_cell (by decide),hl.reads keeps_expo (by decide),hk.reads (keeps_int _) (by decide),ho.cap,hc.cap,hl.cap,hk.cap,hf⟩
end Go.Proofs.YtbbjlfbemibfcaaGreat.book
