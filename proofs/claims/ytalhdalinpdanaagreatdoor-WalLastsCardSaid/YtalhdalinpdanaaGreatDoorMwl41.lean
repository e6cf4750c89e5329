/-
  WalK0, WalK2, WalRm, WalR2, WalK, WalR9, WalDf, WalJ3
-/
import Derived.Test.YtalhdalinpdanaaGreatDoorMwl34
import Derived.Test.YtalhdalinpdanaaGreatDoorMwl11
import Derived.Test.YtalhdalinpdanaaGreatDoorMwl36
import Derived.Test.YtalhdalinpdanaaGreatDoorMwl40
import Derived.Test.YtalhdalinpdanaaGreatDoorMwl33
set_option linter.unusedVariables false
set_option linter.unusedSimpArgs false
section
namespace Go.Proofs.YtalhdalinpdanaaGreatDoor.wal
open Go.RowKit Go.Proofs.YtalhdalinpdanaaGreatDoor Go.Proofs.YtalhdalinpdanaaGreatDoor.frame Go.Proofs.YtalhdalinpdanaaGreatDoor.disk
set_option maxRecDepth 20000
end Go.Proofs.YtalhdalinpdanaaGreatDoor.wal
end
section
namespace Go.Proofs.YtalhdalinpdanaaGreatDoor.wal
open Go.RowKit Go.Proofs.YtalhdalinpdanaaGreatDoor Go.Proofs.YtalhdalinpdanaaGreatDoor.frame Go.Proofs.YtalhdalinpdanaaGreatDoor.disk
set_option maxRecDepth 20000
section
variable {w0 W:World} {D:List Fact} {S:Nat→Prop} {v q:Jv} {s:Wl} {u u2:Dv} {t:DiskD}
end
end Go.Proofs.YtalhdalinpdanaaGreatDoor.wal
end
section
namespace Go.Proofs.YtalhdalinpdanaaGreatDoor.wal
set_option maxRecDepth 20000
open Go.RowKit Go.Proofs.YtalhdalinpdanaaGreatDoor Go.Proofs.YtalhdalinpdanaaGreatDoor.frame Go.Proofs.YtalhdalinpdanaaGreatDoor.disk
theorem value_cons (c:Nat) (l:List Nat):value (c :: l)=(c - 48) * 10 ^ l.length+value l:=by
 have h:∀ (l:List Nat) (a:Nat),l.foldl (fun a c=>a * 10+(c - 48)) a=a * 10 ^ l.length+l.foldl (fun a c=>a * 10+(c - 48)) 0:=by
  intro l
  induction l with
  |nil=>intro a;simp
  |cons x l ih =>
   intro a
   rw [List.foldl_cons,ih,List.foldl_cons,ih (0 * 10+(x - 48)),List.length_cons,Nat.pow_succ,Nat.add_mul,Nat.mul_assoc,Nat.mul_comm 10,Nat.zero_mul,Nat.zero_add,Nat.add_assoc]
 unfold value
 rw [List.foldl_cons,h]
 simp
theorem less_value:∀ (l m:List UInt8),l.length=m.length→(l.map UInt8.toNat).all digit=true→(m.map UInt8.toNat).all digit=true→l < m→value (l.map UInt8.toNat) < value (m.map UInt8.toNat)
 | [],[],_,_,_,h=>absurd h (List.lt_irrefl _)
 | [],_ :: _,hl,_,_,_=>by simp at hl
 | _ :: _,[],hl,_,_,_=>by simp at hl
 |a :: l,b :: m,hl,h1,h2,h=>by
  have hl' : l.length=m.length:=by simpa using hl
  simp only [List.map_cons,List.all_cons,Bool.and_eq_true] at h1 h2
  rw [List.map_cons,List.map_cons,value_cons,value_cons,List.length_map,List.length_map,hl']
  have d1:=h1.1;have d2:=h2.1
  simp only [digit,Bool.and_eq_true,decide_eq_true_eq] at d1 d2
  have v1:=(value_dg _ h1.2).2
  rw [List.length_map,hl'] at v1
  rcases List.cons_lt_cons_iff.1 h with hab | ⟨e,h4⟩
  ·have hab:=UInt8.lt_iff_toNat_lt.1 hab
   have h3:(a.toNat - 48+1) * 10 ^ m.length≤(b.toNat - 48) * 10 ^ m.length:=Nat.mul_le_mul_right _ (by omega)
   rw [Nat.add_mul,Nat.one_mul] at h3
   omega
  ·subst e
   have:=less_value l m hl' h1.2 h2.2 h4
   omega
theorem numOf_digits {s:ByteArray} (h:0 < numOf s):s.data.toList.length=14∧s.data.toList.take 4=[108,111,103,46]∧((s.data.toList.drop 4).map UInt8.toNat).all digit=true∧numOf s=(value ((s.data.toList.drop 4).map UInt8.toNat):Nat):=by
 unfold numOf numL at h ⊢
 split at h
 ·rename_i g
  obtain ⟨h1,h2,h3,h4⟩:=g
  rw [if_pos ⟨h1,h2,h3,h4⟩]
  unfold listOf at h1 h2 h3 ⊢
  rw [List.length_map] at h1
  rw [← List.map_drop] at h3 ⊢
  refine ⟨h1,?_,h3,rfl⟩
  rw [← List.map_take] at h2
  exact (List.map_inj_right (f:=UInt8.toNat) (l':=[108,111,103,46]) (fun x y e=>UInt8.toNat.inj e)).1 (h2.trans rfl)
 ·omega
theorem app_lt:∀ (p l m:List UInt8),p++l < p++m→l < m
 | [],_,_,h=>h
 |a :: p,l,m,h=>by
  rcases List.cons_lt_cons_iff.1 h with h | ⟨_,h⟩
  ·exact absurd h (UInt8.lt_irrefl _)
  ·exact app_lt p l m h
theorem num_lt {a b:ByteArray} (h:nlt a b) (ha:0 < numOf a) (hb:0 < numOf b):numOf a < numOf b:=by
 obtain ⟨a1,a2,a3,a4⟩:=numOf_digits ha
 obtain ⟨b1,b2,b3,b4⟩:=numOf_digits hb
 have h' : a.data.toList < b.data.toList:=by
  have:a.toList < b.toList:=h
  rwa [ByteArray.toList_eq,ByteArray.toList_eq] at this
 rw [← List.take_append_drop 4 a.data.toList,← List.take_append_drop 4 b.data.toList,a2,b2] at h'
 have:=less_value _ _ (by rw [List.length_drop,List.length_drop,a1,b1]) a3 b3 (app_lt _ _ _ h')
 rw [a4,b4];omega
theorem segs_rise (t:DiskD):(segs t).Pairwise (· < ·):=by
 unfold segs
 split
 ·rename_i hr
  have hrow:Row t.files:=((good_iff none t.files).1 (by
   unfold rightB at hr;simp only [Bool.and_eq_true] at hr;exact hr.1.2)).2.1
  rw [List.pairwise_filter,List.pairwise_map]
  exact List.Pairwise.imp (fun h ha hb=>num_lt h (of_decide_eq_true ha) (of_decide_eq_true hb)) hrow
 ·exact List.Pairwise.nil
end Go.Proofs.YtalhdalinpdanaaGreatDoor.wal
end
section
namespace Go.Proofs.YtalhdalinpdanaaGreatDoor.wal
open Go.RowKit Go.Proofs.YtalhdalinpdanaaGreatDoor Go.Proofs.YtalhdalinpdanaaGreatDoor.frame Go.Proofs.YtalhdalinpdanaaGreatDoor.disk
set_option maxRecDepth 20000
end Go.Proofs.YtalhdalinpdanaaGreatDoor.wal
end
section
namespace Go.Proofs.YtalhdalinpdanaaGreatDoor.wal
open Go.RowKit Go.Proofs.YtalhdalinpdanaaGreatDoor Go.Proofs.YtalhdalinpdanaaGreatDoor.frame Go.Proofs.YtalhdalinpdanaaGreatDoor.disk
set_option maxRecDepth 20000
section
variable {w0 W:World} {D:List Fact} {S:Nat→Prop} {v q:Jv} {s:Wl} {u u2:Dv} {t:DiskD}
end
end Go.Proofs.YtalhdalinpdanaaGreatDoor.wal
end
section
namespace Go.Proofs.YtalhdalinpdanaaGreatDoor.wal
open Go.RowKit Go.Proofs.YtalhdalinpdanaaGreatDoor Go.Proofs.YtalhdalinpdanaaGreatDoor.frame Go.Proofs.YtalhdalinpdanaaGreatDoor.disk
set_option maxRecDepth 20000
section
variable {t:DiskD} {i:Nat} {ep z:Int} {all:List FrameD}
end
section
variable {w0 W:World} {D:List Fact} {S:Nat→Prop} {u:Dv} {t:DiskD}
end
end Go.Proofs.YtalhdalinpdanaaGreatDoor.wal
end
section
namespace Go.Proofs.YtalhdalinpdanaaGreatDoor
set_option maxRecDepth 20000
open Go.RowKit
section
variable {P:Program} {w0:World}
theorem gives_r {f:FuncId} {fn:Func} {args:Array Value} {D:List Fact} {α:Type} {r:α→Value} {fs:α→List Fact} {t:Fact→Tree} {X:Fact→Prop} (hf:P.funcs[f]?=some fn)
  (h:∀ fr,funX P w0 fn args [] [] (D++[fr]) (fun v s => ∃ x,v=r x∧Turns w0 s.dyn (fs x++[fr])) (t fr)=X fr) (hX:∀ fr,X fr):GivesD P w0 D f args α r fs:=by
 intro w hw hall hst hap hyo
 let fr:Fact:=⟨fun w' => ∀ k,w0.heap.size≤k→k < w.heap.size→¬ anyS D k→w'.heap[k]?=w.heap[k]?,fun k=>w0.heap.size≤k∧k < w.heap.size∧¬ anyS D k⟩
 have hfrS:∀ f2 ∈ D,∀ k,f2.S k→¬ fr.S k:=fun f2 hm k hk hk2=>hk2.2.2 ⟨f2,hm,hk⟩
 refine (funX_sound (t:=t fr) (tags:=[]) (blks:=[]) hf ⟨rfl,rfl,fun _ _ _ _ h=>by simp [findB] at h,fun _ _ h=>by simp [findB] at h,fun _ _ _ h=>by simp [findT] at h,?_,fun _ _ _ _ h=>by simp [findB] at h,?_,List.Pairwise.nil⟩ ⟨hw,fun _ _ h=>by simp [findB] at h,?_,?_⟩ (by rw [h fr];exact hX fr)).mono ?_
 ·intro f2 hm
  rcases List.mem_append.1 hm with hm | hm
  ·exact hst f2 hm
  ·rw [List.mem_singleton.1 hm]
   intro w1 w2 he hF k h1 h2 h3
   exact (he k ⟨h1,h2,h3⟩).trans (hF k h1 h2 h3)
 ·show (D++[fr]).Pairwise _
  rw [List.pairwise_append]
  exact ⟨hap,List.pairwise_singleton _ _,fun f2 hm f3 hm3 k hk hk3=>by rw [List.mem_singleton.1 hm3] at hk3;exact hfrS f2 hm k hk hk3⟩
 ·refine All_iff.2 fun f2 hm=>?_
  rcases List.mem_append.1 hm with hm | hm
  ·exact All_iff.1 hall f2 hm
  ·rw [List.mem_singleton.1 hm];exact fun k _ _ _=>rfl
 ·intro f2 hm k hk
  rcases List.mem_append.1 hm with hm | hm
  ·exact hyo f2 hm k hk
  ·rw [List.mem_singleton.1 hm] at hk;exact ⟨hk.1,hk.2.1⟩
 ·rintro e w' ⟨v,s',N',rfl,⟨x,rfl,ht⟩,hh,hg⟩
  obtain ⟨t1,t2,t3,t4⟩:=ht hg.stable hg.apartF
  have hall2:=All_iff.1 (t4 w' hh.below hh.all)
  rw [List.pairwise_append] at t2
  refine ⟨x,rfl,hh.below,hall2 fr (List.mem_append_right _ (List.mem_singleton.2 rfl)),⟨All_iff.2 fun f2 hm=>hall2 f2 (List.mem_append_left _ hm),fun f2 hm k hk=>?_,t2.1,fun f2 hm=>t1 f2 (List.mem_append_left _ hm)⟩⟩
  obtain ⟨f3,hm3,hk3⟩:=t3 f2 (List.mem_append_left _ hm) k hk
  have hy:=hh.young f3 hm3 k hk3
  refine ⟨?_,hy.2⟩
  by_cases hX2:anyS D k
  ·exact .inl hX2
  ·rcases Nat.lt_or_ge k w.heap.size with hkl | hkl
   ·exact absurd ⟨hy.1,hkl,hX2⟩ (t2.2.2 f2 hm fr (List.mem_singleton.2 rfl) k hk)
   ·exact .inr hkl
end
theorem gives_turn {P:Program} {w0:World} {D D' Q:List Fact} {f:FuncId} {args:Array Value} {α:Type} {r:α→Value} {fs:α→List Fact} (ht:Turns w0 D' (D++Q)) (h:GivesD P w0 D f args α r fs):GivesD P w0 D' f args α r (fun x=>fs x++Q):=by
 intro w hw ha hs hp hy
 obtain ⟨t1,t2,t3,t4⟩:=ht hs hp
 rw [List.pairwise_append] at t2
 have hall:=All_iff.1 (t4 w hw ha)
 have hyy:∀ f ∈ D++Q,∀ k,f.S k→w0.heap.size≤k∧k < w.heap.size:=fun f hf k hk=>by
  obtain ⟨g,hg,hgk⟩:=t3 f hf k hk
  exact hy g hg k hgk
 refine (h w hw (All_iff.2 fun f hf=>hall f (List.mem_append_left _ hf)) (fun f hf=>t1 f (List.mem_append_left _ hf)) t2.1 (fun f hf=>hyy f (List.mem_append_left _ hf))).mono ?_
 rintro e w' ⟨x,rfl,hb,hfr,hn⟩
 have hmore:∀ k,anyS D k→anyS D' k:=fun k ⟨f,hf,hk⟩=>t3 f (List.mem_append_left _ hf) k hk
 have hQ:∀ f ∈ Q,∀ k,f.S k→¬ anyS D k:=fun f hf k hk ⟨g,hg,hgk⟩=>t2.2.2 g hg f hf k hgk hk
 refine ⟨x,rfl,hb,fun k h1 h2 h3=>hfr k h1 h2 (fun h4=>h3 (hmore k h4)),⟨All_iff.2 fun f hf=>?_,fun f hf k hk=>?_,?_,fun f hf=>?_⟩⟩
 ·rcases List.mem_append.1 hf with hf | hf
  ·exact All_iff.1 hn.all f hf
  ·refine t1 f (List.mem_append_right _ hf) w w' (fun k hk=>?_) (hall f (List.mem_append_right _ hf))
   have:=hyy f (List.mem_append_right _ hf) k hk
   exact hfr k this.1 this.2 (hQ f hf k hk)
 ·rcases List.mem_append.1 hf with hf | hf
  ·have:=hn.young f hf k hk
   exact ⟨this.1.imp (hmore k) id,this.2⟩
  ·have hk2:=hyy f (List.mem_append_right _ hf) k hk
   refine ⟨.inl (t3 f (List.mem_append_right _ hf) k hk),?_⟩
   rcases Nat.lt_or_ge k w'.heap.size with h1 | h1
   ·exact h1
   ·exfalso
    have e1:=hfr k hk2.1 hk2.2 (hQ f hf k hk)
    rw [Array.getElem?_eq_none h1,Array.getElem?_eq_getElem hk2.2] at e1
    cases e1
 ·rw [List.pairwise_append]
  refine ⟨hn.apart,t2.2.1,fun f hf q hq k hk hk2=>?_⟩
  rcases (hn.young f hf k hk).1 with h1 | h1
  ·exact hQ q hq k hk2 h1
  ·have:=(hyy q (List.mem_append_right _ hq) k hk2).2;omega
 ·rcases List.mem_append.1 hf with hf | hf
  ·exact hn.stable f hf
  ·exact t1 f (List.mem_append_right _ hf)
theorem each_take {α:Type} {R:Rd α} {size:Nat} {w:World} {S:Nat→Prop} : ∀ {css:List (List Value)} {xs:List α} (i:Nat),Each R size w S css xs→Each R size w S (css.take i) (xs.take i)
 | _,_,0,_=>trivial
 | [],[],_+1,_=>trivial
 | [],_ :: _,_,h=>h.elim
 | _ :: _,[],_,h=>h.elim
 | _ :: _,_ :: _,i+1,h=>⟨h.1,h.2.1,each_take i h.2.2⟩
theorem flat_take {size:Nat} : ∀ (css:List (List Value)) (i:Nat),(∀ x ∈ css,x.length=size)→(css.take i).flatten=css.flatten.take (i * size)
 | _,0,_=>by simp
 | [],i+1,_=>by simp
 |x :: css,i+1,h=>by
  have hx:=h x (by simp)
  rw [List.take_succ_cons,List.flatten_cons,flat_take css i (fun y hy=>h y (by simp [hy])),List.flatten_cons]
  have e1:(i+1) * size=x.length+i * size:=by rw [hx,Nat.succ_mul];omega
  rw [e1,List.take_length_add_append]
theorem each_go {α:Type} {R:Rd α} {size:Nat} {w w' : World} {S:Nat→Prop} (hF:∀ {cs x},R w S cs x→R w' S cs x):∀ {css:List (List Value)} {xs:List α},Each R size w S css xs→Each R size w' S css xs
 | [],[],_=>trivial
 | [],_ :: _,h=>h.elim
 | _ :: _,[],h=>h.elim
 | _ :: _,_ :: _,h=>⟨h.1,hF h.2.1,each_go hF h.2.2⟩
end Go.Proofs.YtalhdalinpdanaaGreatDoor
namespace Go.Proofs.YtalhdalinpdanaaGreatDoor.wal
open Go.RowKit Go.Proofs.YtalhdalinpdanaaGreatDoor Go.Proofs.YtalhdalinpdanaaGreatDoor.frame Go.Proofs.YtalhdalinpdanaaGreatDoor.disk
abbrev zeroF:List Value:=[.int .i64 0,.int .i64 0,.int .i64 0,.int .i64 0,.int .i64 0,.int .i64 0,.int .i64 0,.int .i64 0,.int .i64 0]
theorem zero_one (m:Nat):∀ v ∈ (Builtin.zeroCells (Value.agg zeroF.toArray).cells m).toList,v.oneCell'=true:=fun v hv=>by
 unfold Builtin.zeroCells at hv
 simp only [Array.toList_map,List.mem_map] at hv
 obtain ⟨i,_,rfl⟩:=hv
 have hs:(Value.agg zeroF.toArray).cells.size=9:=by kernel_rfl
 have hm:∀ k,k < 9→((Value.agg zeroF.toArray).cells[k]!).oneCell'=true:=by
  intro k hk
  match k,hk with
  | 0,_ | 1,_ | 2,_ | 3,_ | 4,_ | 5,_ | 6,_ | 7,_ | 8,_=>rfl
 exact hm _ (by rw [hs];exact Nat.mod_lt _ (by decide))
theorem clear_rows (w:World) (ty:TypeId) (g o m c:Nat) (hm:0 < m) (hc:∀ j,j < m * 9→(w.cell? ⟨g,o+j,none⟩).isSome=true) (hf:∀ j,j < m * 9→w.frozen? ⟨g,o+j,none⟩=false) :
  ∃ zs:List Value,zs.length=m * 9∧(Builtin.clear_ #[22] ty #[.slice (some ⟨g,o,none⟩) m c]).run Tryz.prog w = .ok (.tuple #[]) (w.setCells g o zs):=by
 have hl:(Builtin.zeroCells (Value.agg zeroF.toArray).cells m).toList.length=m * 9:=by
  rw [Array.length_toList,size_zeroCells]
  exact congrArg (m * ·) (by kernel_rfl)
 refine ⟨(Builtin.zeroCells (Value.agg zeroF.toArray).cells m).toList,hl,?_⟩
 have hv:(zeroValue 72).run Tryz.prog w = .ok (.agg zeroF.toArray) w:=by kernel_rfl
 have hst:=run_storeCells_cells (P:=Tryz.prog) g o (Builtin.zeroCells (Value.agg zeroF.toArray).cells m).toList 0 w (by intro j hj;rw [Nat.add_zero];exact hc j (by omega)) (by intro j hj;rw [Nat.add_zero];exact hf j (by omega)) (zero_one m)
 simp only [Nat.add_zero] at hst
 obtain ⟨m',rfl⟩:∃ m',m=m'+1:=⟨m - 1,by omega⟩
 simp [Builtin.clear_,run_underlying Tryz.underlying22,hv,hst]
section
variable {w0:World} {D:List Fact} {A:Option Addr} {c n i j:Nat} {ys:List FrameD}
theorem cut_own (h:i≤n):Yields0 Tryz.prog w0 D (Instr.sliceAt 22 (.slice A n c) (some (.int .i64 (i:Int))) none none) (.slice (cutAt A c i 9) (n - i) (c - i)):=fun w _ _=>slice_from Tryz.underlying22 info_frame h w
theorem cut_ownto (h:∀ w,All D w→i≤c):Yields0 Tryz.prog w0 D (Instr.sliceAt 22 (.slice A n c) none (some (.int .i64 (i:Int))) none) (.slice A i c):=fun w _ ha=>slice_upto Tryz.underlying22 info_frame (h w ha) w
theorem cut_S {xs zs:List FrameD} {m:Nat} (k:Nat) (h:(ownF rdFrame 9 72 A n c xs).S k):(ownF rdFrame 9 72 A m c zs).S k:=by
 cases A with
 |none=>simp [ownF,Value.ownBlock] at h
 |some a=>simpa [ownF,Value.ownBlock] using h
theorem clear_frames {ty:TypeId} (hi:i≤n) (hj:D[j]?=some (ownF rdFrame 9 72 A n c ys)) :
  StepM Tryz.prog w0 D (Builtin.clear_ #[22] ty #[.slice (cutAt A c i 9) (n - i) (c - i)]) (ownF rdFrame 9 72 A n c ys).S Unit (fun _=>.tuple #[]) (fun _=>[ownF rdFrame 9 72 A i c (ys.take i)]):=fun w hw ha=>by
 have h:=row_at hj w ha
 have hlt:∀ k,(ownF rdFrame 9 72 A i c (ys.take i)).S k→k < w.heap.size:=fun k hk=>(h.block k (cut_S (zs:=ys) k hk)).2
 obtain ⟨css,⟨hcl,hrow⟩,hE,hlen⟩:=h
 rcases hrow with ⟨hv,h0⟩ | ⟨g,cap,cur,hv,_,hg,hnc,hcm,hsz,hcur⟩
 ·simp only [Value.slice.injEq] at hv
  obtain ⟨rfl,rfl,rfl⟩:=hv
  obtain rfl:i=0:=by omega
  refine ⟨(),w,by simp [Builtin.clear_,cutAt,run_underlying Tryz.underlying22],⟨rfl,rfl,rfl,Nat.le_refl _,fun _ _ _=>rfl⟩,news_one OwnElems.nil (ownF_stable keeps_frame) (fun k hk=>by simp [ownF,Value.ownBlock] at hk)⟩
 ·simp only [Value.slice.injEq,true_and] at hv
  obtain ⟨rfl,rfl⟩:=hv
  have hpre:∀ (W:World) (cu:Array Value),W.heap[g]?=some (.cells cu 72 (0,0))→cu.size=c * 9→cu.toList.take (i * 9)=cur.toList.take (i * 9)→OwnElems rdFrame 9 W 0 72 (fun _=>False) (some ⟨g,0,none⟩) i c (ys.take i):=fun W cu h1 h2 h3 =>
   ⟨css.take i,⟨by rw [flat_take css i hE.lens,List.length_take,hcl];omega,.inr ⟨g,c,cu,rfl,Nat.zero_le _,h1,by omega,hcm,h2,by rw [h3,flat_take css i hE.lens,← hcur,List.take_take,Nat.min_eq_left (Nat.mul_le_mul_right _ hi)]⟩⟩,each_go (w:=w) (w':=W) (fun h=>h) (each_take i hE),by rw [List.length_take];omega⟩
  by_cases hn:i=n
  ·subst hn
   refine ⟨(),w,?_,⟨rfl,rfl,rfl,Nat.le_refl _,fun _ _ _=>rfl⟩,news_one (hpre w cur hg hsz rfl) (ownF_stable keeps_frame) (fun k hk=>⟨.inl (cut_S k hk),hlt k hk⟩)⟩
   rw [Nat.sub_self]
   unfold cutAt
   split<;>simp [Builtin.clear_,run_underlying Tryz.underlying22]
  ·have hcz:cur.toList.length=c * 9:=by rw [Array.length_toList,hsz]
   have hk1:∀ k,k < c * 9→(w.cell? ⟨g,k,none⟩).isSome=true∧w.frozen? ⟨g,k,none⟩=false:=fun k hk=>by
    have:=block_cell hg k cur[k] (Array.getElem?_eq_getElem (by omega))
    exact ⟨by rw [this.1];rfl,this.2⟩
   obtain ⟨zs,hz,hrun⟩:=clear_rows w ty g (i * 9) (n - i) (c - i) (by omega) (fun j hj=>(hk1 _ (by omega)).1) (fun j hj=>(hk1 _ (by omega)).2)
   have hE2:=setCells_row (T:=72) (g:=g) zs (i * 9) w cur.toList (by simpa using hg) (by rw [hcz,hz];omega)
   refine ⟨(),w.setCells g (i * 9) zs,?_,⟨?_,?_,?_,by rw [setCells_size];exact Nat.le_refl _,fun k hk hx=>?_⟩,news_one (hpre _ _ hE2 ?_ ?_) (ownF_stable keeps_frame) (fun k hk=>⟨.inl (cut_S k hk),by rw [setCells_size];exact hlt k hk⟩)⟩
   ·have e:cutAt (some ⟨g,0,none⟩) c i 9=some ⟨g,i * 9,none⟩:=by
     unfold cutAt
     rw [if_neg (by omega),Option.map_some,Addr.add_lit,Nat.zero_add]
    rw [e];exact hrun
   ·exact (setCells_below (Nat.zero_le _) _ _ _ (Below.refl 0 w)).os
   ·exact (setCells_below (Nat.zero_le _) _ _ _ (Below.refl 0 w)).tape
   ·exact (setCells_below (Nat.zero_le _) _ _ _ (Below.refl 0 w)).output
   ·exact setCells_other (fun e=>hx (by simp only [ownF,Value.ownBlock];rw [e])) _ _ _
   ·rw [List.size_toArray,List.length_append,List.length_append,List.length_take,List.length_drop,hcz,hz];omega
   ·show ((cur.toList.take (i * 9)++zs++cur.toList.drop (i * 9+zs.length)).take (i * 9))=_
    rw [List.append_assoc,List.take_append_of_le_length (by rw [List.length_take,hcz];omega),List.take_take,Nat.min_self]
end
def keepD (n:Int) (l:List FrameD):List FrameD:=l.filter fun f => !decide (f.l < n)
abbrev bP (n:Int):FrameD→Bool:=fun f=>decide (f.l < n)
theorem keep_snoc (n:Int) (l:List FrameD) (j:Nat) (hj:j < l.length):keepD n (l.take (j+1))=keepD n (l.take j)++(if (l.getD j frz).l < n then [] else [l.getD j frz]):=by
 unfold keepD
 rw [List.take_add_one,List.getElem?_eq_getElem hj,List.filter_append,List.getD_eq_getElem?_getD,List.getElem?_eq_getElem hj]
 congr 1
 simp only [Option.toList_some,Option.getD_some,List.filter_cons,List.filter_nil]
 by_cases h:(l[j]).l < n<;>simp [h]
theorem keep_none {n:Int} {l:List FrameD} (h:idxI (bP n) l = -1):keepD n l=l:=by
 unfold keepD
 rw [List.filter_eq_self]
 intro x hx
 cases hb:decide (x.l < n) with
 |false=>rfl
 |true =>
  have:=List.findIdx_lt_length_of_exists (p:=bP n) ⟨x,hx,hb⟩
  unfold idxI at h
  rw [if_pos this] at h
  omega
theorem keep_some {n:Int} {l:List FrameD} (h:¬ idxI (bP n) l = -1):idxI (bP n) l=((l.findIdx (bP n):Nat):Int)∧l.findIdx (bP n) < l.length:=by
 unfold idxI at h ⊢
 split
 ·rename_i hl;exact ⟨rfl,hl⟩
 ·rename_i hl;rw [if_neg hl] at h;exact absurd rfl h
structure DelI (n:Int) (l:List FrameD) (i j:Nat) (ys:List FrameD):Prop where
 lt:i < j
 le:j≤l.length
 len:ys.length=l.length
 kept:ys.take i=keepD n (l.take j)
 rest:ys.drop j=l.drop j
section
variable {n:Int} {l ys:List FrameD} {i j:Nat}
theorem DelI.start (h:¬ idxI (bP n) l = -1):DelI n l (l.findIdx (bP n)) (l.findIdx (bP n)+1) l:=by
 obtain ⟨_,hl⟩:=keep_some h
 have hp:=List.findIdx_getElem (w:=hl)
 refine ⟨Nat.lt_succ_self _,hl,rfl,?_,rfl⟩
 rw [keep_snoc n l _ hl,if_pos (by rw [List.getD_eq_getElem?_getD,List.getElem?_eq_getElem hl];exact of_decide_eq_true hp),List.append_nil]
 unfold keepD
 rw [eq_comm,List.filter_eq_self]
 intro x hx
 obtain ⟨k,hk,e⟩:=List.getElem_of_mem hx
 rw [List.length_take] at hk
 rw [List.getElem_take] at e
 have:=List.not_of_lt_findIdx (p:=bP n) (xs:=l) (i:=k) (by omega)
 rw [e] at this
 simpa using this
theorem DelI.at_ (h:DelI n l i j ys) (hj:j < l.length):ys.getD j frz=l.getD j frz:=by
 have:=congrArg (fun z:List FrameD=>z[0]?) h.rest
 simp only [List.getElem?_drop,Nat.add_zero] at this
 rw [List.getD_eq_getElem?_getD,List.getD_eq_getElem?_getD,this]
theorem DelI.drops (h:DelI n l i j ys):ys.drop (j+1)=l.drop (j+1):=by
 rw [← List.drop_drop,← List.drop_drop,h.rest]
theorem DelI.skip (h:DelI n l i j ys) (hj:j < l.length) (hb:decide ((ys.getD j frz).l < n)=true):DelI n l i (j+1) ys :=
 ⟨Nat.lt_succ_of_lt h.lt,hj,h.len,by rw [keep_snoc n l j hj,if_pos (by rw [← h.at_ hj];exact of_decide_eq_true hb),List.append_nil];exact h.kept,h.drops⟩
theorem DelI.keep (h:DelI n l i j ys) (hj:j < l.length) (hb:decide ((ys.getD j frz).l < n)=false):DelI n l (i+1) (j+1) (ys.set i (ys.getD j frz)):=by
 have hi:i < ys.length:=by have:=h.lt;have:=h.len;omega
 refine ⟨Nat.succ_lt_succ h.lt,hj,by rw [List.length_set];exact h.len,?_,?_⟩
 ·rw [keep_snoc n l j hj,if_neg (by rw [← h.at_ hj];exact of_decide_eq_false hb),← h.kept,← h.at_ hj,List.take_add_one,List.getElem?_set_self hi,List.take_set_of_le (Nat.le_refl _)]
  rfl
 ·rw [List.drop_set_of_lt (by have:=h.lt;omega)];exact h.drops
theorem DelI.done (h:DelI n l i j ys) (hj:¬ j < l.length):ys.take i=keepD n l:=by
 rw [h.kept,List.take_of_length_le (by omega)]
end
end Go.Proofs.YtalhdalinpdanaaGreatDoor.wal
end
section
namespace Go.Proofs.YtalhdalinpdanaaGreatDoor.wal
open Go.RowKit Go.Proofs.YtalhdalinpdanaaGreatDoor Go.Proofs.YtalhdalinpdanaaGreatDoor.frame Go.Proofs.YtalhdalinpdanaaGreatDoor.disk
set_option maxRecDepth 20000
theorem each_fine {w:World} {S:Nat→Prop} : ∀ {css:List (List Value)} {xs:List FrameD},Each rdFrame 9 w S css xs→∀ f ∈ xs,f.fine
 | [],[],_,f,hf=>by cases hf
 | [],_ :: _,h,_,_=>h.elim
 | _ :: _,[],h,_,_=>h.elim
 | _ :: _,x :: xs,h,f,hf=>by
  rcases List.mem_cons.1 hf with rfl | hf
  ·exact h.2.1.2
  ·exact each_fine h.2.2 f hf
abbrev FineL (L:List FrameD):Prop := ∀ f ∈ L,f.fine
theorem FineL.at_ {L ys:List FrameD} {n:Int} {i j:Nat} (h:FineL L) (hd:DelI n L i j ys) (hj:j < L.length):(ys.getD j frz).fine:=by
 rw [hd.at_ hj,List.getD_eq_getElem?_getD,List.getElem?_eq_getElem hj]
 exact h _ (List.getElem_mem hj)
theorem row_fine {w:World} {A:Option Addr} {n c:Nat} {l:List FrameD} (h:OwnElems rdFrame 9 w 0 72 (fun _=>False) A n c l):FineL l:=by
 obtain ⟨css,_,hE,_⟩:=h
 exact each_fine hE
theorem del_end {w0:World} {A:Option Addr} {c i:Nat} {n:Int} {L ys:List FrameD} {f fr:Fact} (h:ys.take i=keepD n L) (hl:i≤ys.length):∃ x:Unit,(.slice A i c:Value) = .slice A (keepD n L).length c∧Turns w0 (ownF rdFrame 9 72 A i c (ys.take i) :: f :: fr :: []) ([ownF rdFrame 9 72 A (keepD n L).length c (keepD n L),f]++[fr]):=by
 have e:(keepD n L).length=i:=by rw [← h,List.length_take];omega
 rw [e,← h]
 exact ⟨(),rfl,turns_sub (List.Sublist.refl _)⟩
theorem v_ixbelow (A:Option Addr) (c:Nat) (l:List FrameD) (g:Nat) (n:Int)  (w:World) (hx:Elems rdFrame 9 w (Lt w.heap.size) A l) (hm:l.length≤1000000) (hb:Reads0 w [] g 0 #[.int .i64 n]):Calls Tryz.prog 95 #[.slice A l.length c,.func (.func 96) #[] #[.pointer (some ⟨g,0,none⟩)]] w fun e w'=>e = .returned (.int .i64 (idxI (fun x:FrameD=>decide (x.l < n)) l))∧Below w.heap.size w w' :=
 calls_by (fn:=Tryz.f95) (r:=.int .i64 (idxI (fun x:FrameD=>decide (x.l < n)) l)) (t:=.l (Nat) (fun x=>[(0,.slice A l.length c,none),(1,.func (.func 96) #[] #[.pointer (some ⟨g,0,none⟩)],none),(7,.int .i64 (l.length:Int),none),(8,.int .i64 (x:Int),none)]) (fun x=>[]) [] [] (fun x=>[]) (fun x=>x≤l.length∧∀ j,j < x→(decide ((l.getD j frz).l < n))=false) (fun x=>l.length - x) (0:Nat) (fun y1=>.s (.p (blkA A) (offA A+y1 * 9) (fc (l.getD y1 frz)) (.cs (decide ((l.getD y1 frz).l < n)) .z (.e (.int .i64 ((y1+1:Nat):Int)) .z))) .z)) (X :=
 let k0:Array Value:=#[.pointer (some ⟨g,0,none⟩)];let k1:=(l.length:Int);let k2:=([]:List (Option Blk));Brings w [] []∧((0:Nat)≤l.length∧∀ j,j < (0:Nat)→(decide ((l.getD j frz).l < n))=false)∧(([.slice A l.length c,.func (.func 96) #[] k0,.int .i64 k1,.int .i64 0]:List Value)=[.slice A l.length c,.func (.func 96) #[] k0,.int .i64 k1,.int .i64 ((0:Nat):Int)]∧k2=[]∧Turns w [] [])∧true=true∧∀ (y1:Nat),let k4:=l.getD y1 frz;let k3:=decide (k4.l < n);let k5:=decide ((y1:Int) < k1);(y1≤l.length∧∀ j,j < y1→(decide ((l.getD j frz).l < n))=false)→∀ τ3:Nat→Value,(k5=true→Yields0 Tryz.prog w [] (Instr.indexAt 22 (.slice A l.length c) (.int .i64 (y1:Int))) (.pointer (some ⟨blkA A,offA A+y1 * 9,none⟩))∧Reads0 w [] (blkA A) (offA A+y1 * 9) (fc k4)∧Gives Tryz.prog w [] 96 #[.agg (fc k4),.pointer (some ⟨g,0,none⟩)] (.bool k3)∧(k3=true→((.int .i64 (y1:Int):Value) = .int .i64 (idxI (fun x:FrameD=>decide (x.l < n)) l)))∧(k3=false→(.int .i64 (IntKind.i64.wrap ((y1:Int)+1)):Value) = .int .i64 ((y1+1:Nat):Int)∧∃ x' : Nat,(x'≤l.length∧∀ j,j < x'→(decide ((l.getD j frz).l < n))=false)∧(l.length - x' < l.length - y1)∧(([.slice A l.length c,.func (.func 96) #[] k0,.int .i64 k1,.int .i64 ((y1+1:Nat):Int)]:List Value)=[.slice A l.length c,.func (.func 96) #[] k0,.int .i64 k1,.int .i64 (x' : Int)]∧k2=[]∧Turns w [] [])∧true=true))∧(k5=false→((.int .i64 (-1):Value) = .int .i64 (idxI (fun x:FrameD=>decide (x.l < n)) l)))) Tryz.func95 (by kernel_rfl)
 (⟨(fun w _ _=>news_nil),⟨Nat.zero_le _,fun j hj=>absurd hj (Nat.not_lt_zero j)⟩,⟨rfl,rfl,(turns_sub (List.nil_sublist _))⟩,rfl,fun y1 I2 τ3=>⟨fun h4=>have h4:(y1:Int) < (l.length:Int):=(by simpa using h4)
⟨(low_index Tryz.underlying22 info_frame frame_cells (Nat.le_refl _) hx rfl (by omega)),(low_reads frame_cells (Nat.le_refl _) hx (at_getD (by omega))),⟨(fun w hw _=>v_below1 (l.getD y1 frz) g n w (reads_later hb hw)),fun h5=>(by rw [idx_at (p:=(fun x:FrameD=>decide (x.l < n))) (z:=frz) (by omega) I2.2 h5]),
 fun h5=>⟨wrap_is (by omega) (by omega) (by omega),⟨((y1+1):Nat),⟨by omega,lt_step I2.2 h5⟩,(by omega),⟨rfl,rfl,(turns_sub (List.nil_sublist _))⟩,rfl⟩⟩⟩⟩,
 fun h4=>have h4:¬ (y1:Int) < (l.length:Int):=(by simpa using h4)
(by rw [idx_none (p:=(fun x:FrameD=>decide (x.l < n))) (z:=frz) (fun j hj=>I2.2 j (by omega))])⟩⟩)
theorem v_delete (A:Option Addr) (c:Nat) (L:List FrameD) (g:Nat) (n:Int) (w:World) (hm:L.length≤1000) (hfine:FineL L):GivesD Tryz.prog w [ownF rdFrame 9 72 A L.length c L,cellsF g #[.int .i64 n] 2] 54 #[.slice A L.length c,.func (.func 96) #[] #[.pointer (some ⟨g,0,none⟩)]] Unit (fun _=>.slice A (keepD n L).length c) (fun _=>[ownF rdFrame 9 72 A (keepD n L).length c (keepD n L),cellsF g #[.int .i64 n] 2]) :=
 gives_r (fn:=Tryz.f54) (r:=fun (_:Unit)=>.slice A (keepD n L).length c) (fs:=fun (_:Unit)=>[ownF rdFrame 9 72 A (keepD n L).length c (keepD n L),cellsF g #[.int .i64 n] 2]) (t:=fun fr=>let k0:=L.findIdx (bP n); .c (.int .i64 (idxI (bP n) L)) (.s .z (.e (.int .i64 ((k0+1:Nat):Int)) (.l (Nat × Nat × List FrameD) (fun x=>[(0,.slice A L.length c,none),(1,.func (.func 96) #[] #[.pointer (some ⟨g,0,none⟩)],none),(5,.int .i64 (x.1:Int),none),(6,.int .i64 (x.2.1:Int),none)]) (fun x=>[]) [] [] (fun x=>[ownF rdFrame 9 72 A L.length c x.2.2,cellsF g #[.int .i64 n] 2,fr]) (fun x=>DelI n L x.1 x.2.1 x.2.2) (fun x=>L.length - x.2.1) ((k0,k0+1,L):Nat × Nat × List FrameD) (fun y2=>let k1:=y2.2.2.getD y2.2.1 frz;let k2:Value:=.int .i64 ((y2.2.1+1:Nat):Int); .s (.q (blkA A) (offA A+y2.2.1 * 9) (fc k1) (.cs (decide ((k1).l < n)) (.e k2 .z) (.x (.pointer (some ⟨blkA A,offA A+y2.1 * 9,none⟩)) (.w (Unit) (some 0) (fun x=>undef) (fun x=>[ownF rdFrame 9 72 A L.length c (y2.2.2.set y2.1 k1)]) (fun x7=>.e (.int .i64 ((y2.1+1:Nat):Int)) (.e k2 .z)))))) (.x (.slice (cutAt A c y2.1 9) (L.length - y2.1) (c - y2.1)) (.w (Unit) (some 0) (fun x=>.tuple #[]) (fun x=>[ownF rdFrame 9 72 A y2.1 c (y2.2.2.take y2.1)]) (fun x8=>.x (.slice A y2.1 c) .z)))))))) (X:=fun fr=>let k6:=L.findIdx (bP n);let k0:=((k6,k6+1,L):Nat × Nat × List FrameD);let k1:Array Value:=#[.pointer (some ⟨g,0,none⟩)];let k2:List Fact:=[ownF rdFrame 9 72 A L.length c L,cellsF g #[.int .i64 n] 2,fr];let k3:=[ownF rdFrame 9 72 A (keepD n L).length c (keepD n L),cellsF g #[.int .i64 n] 2]++[fr];let k4:=idxI (bP n) L;let k5:Value:=.slice A L.length c;let k7:=([]:List (Option Blk));Gives Tryz.prog w k2 95 #[.slice A L.length c,.func (.func 96) #[] k1] (.int .i64 k4)∧((decide (k4=(-1)))=true→∃ x:Unit,(.slice A L.length c:Value) = .slice A (keepD n L).length c∧Turns w k2 k3)∧((decide (k4=(-1)))=false→(.int .i64 (IntKind.i64.wrap (k4+1)):Value) = .int .i64 ((k6+1:Nat):Int)∧Brings w k2 []∧(DelI n L k0.1 k0.2.1 k0.2.2)∧(([.slice A L.length c,.func (.func 96) #[] k1,.int .i64 k4,.int .i64 ((k6+1:Nat):Int)]:List Value)=[.slice A L.length c,.func (.func 96) #[] k1,.int .i64 (k0.1:Int),.int .i64 (k0.2.1:Int)]∧k7=[]∧Turns w k2 [ownF rdFrame 9 72 A L.length c (k0.2.2),cellsF g #[.int .i64 n] 2,fr])∧true=true∧∀ (y2:Nat × Nat × List FrameD),let k8:List Fact:=[ownF rdFrame 9 72 A L.length c y2.2.2,cellsF g #[.int .i64 n] 2,fr];let k9:=y2.2.2.getD y2.2.1 frz;let k10:=((y2.2.1+1:Nat):Int);let k11:List Fact:=[ownF rdFrame 9 72 A y2.1 c (y2.2.2.take y2.1),cellsF g #[.int .i64 n] 2,fr];let k12:=(.int .i64 (IntKind.i64.wrap ((y2.2.1:Int)+1)):Value);let k13:Value:=.pointer (some ⟨blkA A,offA A+y2.1 * 9,none⟩);let k14:=decide ((y2.2.1:Int) < (L.length:Int));let k15:=(ownF rdFrame 9 72 A L.length c y2.2.2).S;let k16:=decide ((k9).l < n);let k17:Value:=.int .i64 (y2.1:Int);(DelI n L y2.1 y2.2.1 y2.2.2)→∀ τ4:Nat→Value,(k14=true→Yields0 Tryz.prog w k8 (Instr.indexAt 22 k5 (.int .i64 (y2.2.1:Int))) (.pointer (some ⟨blkA A,offA A+y2.2.1 * 9,none⟩))∧Reads0 w k8 (blkA A) (offA A+y2.2.1 * 9) (fc k9)∧∀ g1:Nat,Gives Tryz.prog w k8 96 #[.agg (fc k9),.pointer (some ⟨g,0,none⟩)] (.bool k16)∧(k16=true→k12 = .int .i64 k10∧∃ x' : Nat × Nat × List FrameD,(DelI n L x'.1 x'.2.1 x'.2.2)∧(L.length - x'.2.1 < L.length - y2.2.1)∧(([.slice A L.length c,.func (.func 96) #[] k1,.int .i64 (y2.1:Int),.int .i64 k10]:List Value)=[.slice A L.length c,.func (.func 96) #[] k1,.int .i64 (x'.1:Int),.int .i64 (x'.2.1:Int)]∧k7=[]∧Turns w k8 [ownF rdFrame 9 72 A L.length c x'.2.2,cellsF g #[.int .i64 n] 2,fr])∧true=true)∧(k16=false→Yields0 Tryz.prog w k8 (Instr.indexAt 22 k5 k17) k13∧StepU Tryz.prog w k8 (Instr.storeAt 72 k13 (.agg (fc k9))) k15 (Unit) (fun x=>undef) (fun x=>[ownF rdFrame 9 72 A L.length c (y2.2.2.set y2.1 k9)])∧∀ x7:Unit,(.int .i64 (IntKind.i64.wrap ((y2.1:Int)+1)):Value) = .int .i64 ((y2.1+1:Nat):Int)∧k12 = .int .i64 k10∧∃ x' : Nat × Nat × List FrameD,(DelI n L x'.1 x'.2.1 x'.2.2)∧(L.length - x'.2.1 < L.length - y2.2.1)∧(([.slice A L.length c,.func (.func 96) #[] k1,.int .i64 ((y2.1+1:Nat):Int),.int .i64 k10]:List Value)=[.slice A L.length c,.func (.func 96) #[] k1,.int .i64 (x'.1:Int),.int .i64 (x'.2.1:Int)]∧k7=[]∧Turns w [ownF rdFrame 9 72 A L.length c (y2.2.2.set y2.1 k9),cellsF g #[.int .i64 n] 2,fr] [ownF rdFrame 9 72 A L.length c x'.2.2,cellsF g #[.int .i64 n] 2,fr])∧true=true))∧(k14=false→Yields0 Tryz.prog w k8 (Instr.sliceAt 22 k5 (some k17) none none) (.slice (cutAt A c y2.1 9) (L.length - y2.1) (c - y2.1))∧StepM Tryz.prog w k8 (Builtin.clear_ #[22] 0 #[.slice (cutAt A c y2.1 9) (L.length - y2.1) (c - y2.1)]) k15 (Unit) (fun x=>.tuple #[]) (fun x=>[ownF rdFrame 9 72 A y2.1 c (y2.2.2.take y2.1)])∧∀ x8:Unit,Yields0 Tryz.prog w k11 (Instr.sliceAt 22 k5 none (some k17) none) (.slice A y2.1 c)∧∃ x:Unit,(.slice A y2.1 c:Value) = .slice A (keepD n L).length c∧Turns w k11 k3))) Tryz.func54 (fun fr=>by kernel_rfl)
 (fun fr=>⟨(fun w1 hw ha=>v_ixbelow A c L g n w1 ((row_at (j:=0) rfl w1 ha).reads keeps_frame (by decide)) (by omega) (reads_block (block_at (j:=1) rfl w1 ha))),⟨fun h1=>have h1:(idxI (bP n) L)=(-1):=(by simpa using h1)
(by rw [keep_none h1];exact ⟨(),rfl,turns_sub (List.Sublist.refl _)⟩),
 fun h1=>have h1:¬ (idxI (bP n) L)=(-1):=(by simpa using h1)
⟨wrap_is (by rw [(keep_some h1).1];rfl) (by omega) (by have:=(keep_some h1).2;omega),⟨(fun w _ _=>news_nil),(DelI.start h1),⟨(by rw [(keep_some h1).1]),rfl,(turns_sub (List.Sublist.refl _))⟩,rfl,fun y2 I3 τ4=>⟨fun h5=>have h5:(y2.2.1:Int) < (L.length:Int):=(by simpa using h5)
⟨(own_index Tryz.underlying22 info_frame (row_at (j:=0) rfl) (by have:=I3.lt;have:=I3.le;omega)),(own_reads keeps_frame (by decide) frame_cells (row_at (j:=0) rfl) (at_getD (by have:=I3.len;have:=I3.le;omega))),fun g1=>⟨(fun w1 hw ha=>v_below1 (y2.2.2.getD y2.2.1 frz) g n w1 (reads_block (block_at (j:=1) rfl w1 ha))),fun h6=>⟨wrap_is rfl (by omega) (by have:=I3.lt;have:=I3.le;omega),⟨((y2.1,y2.2.1+1,y2.2.2):Nat × Nat × List FrameD),(I3.skip (by omega) h6),(by dsimp only;omega),⟨rfl,rfl,(turns_sub (.cons_cons _ (.cons_cons _ (.cons_cons _ (List.nil_sublist _)))))⟩,rfl⟩⟩,
 fun h6=>⟨(own_index Tryz.underlying22 info_frame (row_at (j:=0) rfl) (by have:=I3.lt;have:=I3.le;omega)),⟨(store_agg keeps_frame leaf_frame info_frame (row_at (j:=0) rfl) (by have:=I3.lt;have:=I3.le;omega) rfl (fun _=>⟨rfl,(hfine.at_ I3 (by omega))⟩)),fun x7=>⟨wrap_is rfl (by omega) (by have:=I3.lt;have:=I3.le;omega),⟨wrap_is rfl (by omega) (by have:=I3.lt;have:=I3.le;omega),⟨((y2.1+1,y2.2.1+1,y2.2.2.set y2.1 (y2.2.2.getD y2.2.1 frz)):Nat × Nat × List FrameD),(I3.keep (by omega) h6),(by dsimp only;omega),⟨rfl,rfl,(turns_sub (.cons_cons _ (.cons_cons _ (.cons_cons _ (List.nil_sublist _)))))⟩,rfl⟩⟩⟩⟩⟩⟩⟩,
 fun h5=>have h5:¬ (y2.2.1:Int) < (L.length:Int):=(by simpa using h5)
⟨(cut_own (by have:=I3.lt;have:=I3.le;omega)),⟨(clear_frames (by have:=I3.lt;have:=I3.le;omega) (j:=0) rfl),fun x8=>⟨(cut_ownto (fun w1 ha=>(row_at (j:=0) rfl w1 ha).cap.1)),(del_end (I3.done (by omega)) (by have:=I3.lt;have:=I3.le;have:=I3.len;omega))⟩⟩⟩⟩⟩⟩⟩⟩)
theorem g_delete {w0:World} {A:Option Addr} {c:Nat} {L:List FrameD} {g:Nat} {n:Int} (hm:L.length≤1000):GivesD Tryz.prog w0 [ownF rdFrame 9 72 A L.length c L,cellsF g #[.int .i64 n] 2] 54 #[.slice A L.length c,.func (.func 96) #[] #[.pointer (some ⟨g,0,none⟩)]] Unit (fun _=>.slice A (keepD n L).length c) (fun _=>[ownF rdFrame 9 72 A (keepD n L).length c (keepD n L),cellsF g #[.int .i64 n] 2]) :=
 fun w hw ha hs hp hy=>v_delete A c L g n w0 hm (row_fine (row_at (j:=0) rfl w ha)) w hw ha hs hp hy
end Go.Proofs.YtalhdalinpdanaaGreatDoor.wal
end
