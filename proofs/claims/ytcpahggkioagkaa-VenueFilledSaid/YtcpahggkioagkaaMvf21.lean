/-
  VcE, Vt, VcR, VcN
-/
import Derived.Test.YtcpahggkioagkaaMvf10
set_option linter.unusedVariables false
set_option linter.unusedSimpArgs false
section
namespace Go.Proofs.Ytcpahggkioagkaa
set_option maxRecDepth 20000
open Go.RowKit
variable {P:Program} {w0:World} {D:List Fact}
theorem eql_agg {T:TypeId} {x y:Array Value} {b:Bool} (hg:P.eqGuardType P.depth T=false) (he:∀ W,(Op.equalIn 10000 T (.agg x) (.agg y)).run P W = .ok b W) (ox oy:Operand) :
  Yields0 P w0 D (do eqGuard .eql T ox oy (.agg x) (.agg y);Go.binOp .eql T (.agg x) (.agg y)) (.bool b):=by
 intro w _ _
 simp only [eqGuard,Go.binOp,Sem.run_bind]
 simp [hg,Result.andThen_ok,Op.equal,Sem.run_bind,he,Op.maxDepth]
end Go.Proofs.Ytcpahggkioagkaa
end
section
namespace Go.Proofs.Ytcpahggkioagkaa.book
set_option maxRecDepth 20000
theorem vt {p:Prop} [Decidable p] (h:p):(.bool true:Value) = .bool (decide p):=by rw [decide_eq_true h]
theorem vf {p:Prop} [Decidable p] (h:¬ p):(.bool false:Value) = .bool (decide p):=by rw [decide_eq_false h]
end Go.Proofs.Ytcpahggkioagkaa.book
end
section
namespace Go.Proofs.Ytcpahggkioagkaa
set_option maxRecDepth 20000
open Go.RowKit
section
variable {P:Program} {w0:World}
theorem gives_r {f:FuncId} {fn:Func} {args:Array Value} {D:List Fact} {α:Type} {r:α→Value} {fs:α→List Fact} {t:Fact→Tree} {X:Fact→Prop} (hf:P.funcs[f]?=some fn)
  (h:∀ fr,funX P w0 fn args [] [] (D++[fr]) (fun v s => ∃ x,v=r x∧Turns w0 s.dyn (fs x++[fr])) (t fr)=X fr) (hX:∀ fr,X fr):GivesD P w0 D f args α r fs:=by
 intro w hw hall hst hap hyo
 let fr:Fact:=⟨fun w' => ∀ k,w0.heap.size≤k→k < w.heap.size→¬ anyS D k→w'.heap[k]?=w.heap[k]?,fun k=>w0.heap.size≤k∧k < w.heap.size∧¬ anyS D k⟩
 have hfrS:∀ f2 ∈ D,∀ k,f2.S k→¬ fr.S k:=fun f2 hm k hk hk2=>hk2.2.2 ⟨f2,hm,hk⟩
 refine (funX_sound (t:=t fr) (tags:=[]) (blks:=[]) hf ⟨rfl,rfl,fun _ _ _ _ h=>by simp [findB] at h,fun _ _ h=>by simp [findB] at h,fun _ _ _ h=>by simp [findT] at h,?_,fun _ _ _ _ h=>by simp [findB] at h,?_,List.Pairwise.nil⟩ ⟨hw,fun _ _ h=>by simp [findB] at h,?_,?_⟩ (by rw [h fr];exact hX fr)).mono ?_
 ·intro f2 hm
  rcases List.mem_append.1 hm with hm | hm
  ·exact hst f2 hm
  ·rw [List.mem_singleton.1 hm]
   intro w1 w2 he hF k h1 h2 h3
   exact (he k ⟨h1,h2,h3⟩).trans (hF k h1 h2 h3)
 ·show (D++[fr]).Pairwise _
  rw [List.pairwise_append]
  exact ⟨hap,List.pairwise_singleton _ _,fun f2 hm f3 hm3 k hk hk3=>by rw [List.mem_singleton.1 hm3] at hk3;exact hfrS f2 hm k hk hk3⟩
 ·refine All_iff.2 fun f2 hm=>?_
  rcases List.mem_append.1 hm with hm | hm
  ·exact All_iff.1 hall f2 hm
  ·rw [List.mem_singleton.1 hm];exact fun k _ _ _=>rfl
 ·intro f2 hm k hk
  rcases List.mem_append.1 hm with hm | hm
  ·exact hyo f2 hm k hk
  ·rw [List.mem_singleton.1 hm] at hk;exact ⟨hk.1,hk.2.1⟩
 ·rintro e w' ⟨v,s',N',rfl,⟨x,rfl,ht⟩,hh,hg⟩
  obtain ⟨t1,t2,t3,t4⟩:=ht hg.stable hg.apartF
  have hall2:=All_iff.1 (t4 w' hh.below hh.all)
  rw [List.pairwise_append] at t2
  refine ⟨x,rfl,hh.below,hall2 fr (List.mem_append_right _ (List.mem_singleton.2 rfl)),⟨All_iff.2 fun f2 hm=>hall2 f2 (List.mem_append_left _ hm),fun f2 hm k hk=>?_,t2.1,fun f2 hm=>t1 f2 (List.mem_append_left _ hm)⟩⟩
  obtain ⟨f3,hm3,hk3⟩:=t3 f2 (List.mem_append_left _ hm) k hk
  have hy:=hh.young f3 hm3 k hk3
  refine ⟨?_,hy.2⟩
  by_cases hX2:anyS D k
  ·exact .inl hX2
  ·rcases Nat.lt_or_ge k w.heap.size with hkl | hkl
   ·exact absurd ⟨hy.1,hkl,hX2⟩ (t2.2.2 f2 hm fr (List.mem_singleton.2 rfl) k hk)
   ·exact .inr hkl
end
theorem gives_turn {P:Program} {w0:World} {D D' Q:List Fact} {f:FuncId} {args:Array Value} {α:Type} {r:α→Value} {fs:α→List Fact} (ht:Turns w0 D' (D++Q)) (h:GivesD P w0 D f args α r fs):GivesD P w0 D' f args α r (fun x=>fs x++Q):=by
 intro w hw ha hs hp hy
 obtain ⟨t1,t2,t3,t4⟩:=ht hs hp
 rw [List.pairwise_append] at t2
 have hall:=All_iff.1 (t4 w hw ha)
 have hyy:∀ f ∈ D++Q,∀ k,f.S k→w0.heap.size≤k∧k < w.heap.size:=fun f hf k hk=>by
  obtain ⟨g,hg,hgk⟩:=t3 f hf k hk
  exact hy g hg k hgk
 refine (h w hw (All_iff.2 fun f hf=>hall f (List.mem_append_left _ hf)) (fun f hf=>t1 f (List.mem_append_left _ hf)) t2.1 (fun f hf=>hyy f (List.mem_append_left _ hf))).mono ?_
 rintro e w' ⟨x,rfl,hb,hfr,hn⟩
 have hmore:∀ k,anyS D k→anyS D' k:=fun k ⟨f,hf,hk⟩=>t3 f (List.mem_append_left _ hf) k hk
 have hQ:∀ f ∈ Q,∀ k,f.S k→¬ anyS D k:=fun f hf k hk ⟨g,hg,hgk⟩=>t2.2.2 g hg f hf k hgk hk
 refine ⟨x,rfl,hb,fun k h1 h2 h3=>hfr k h1 h2 (fun h4=>h3 (hmore k h4)),⟨All_iff.2 fun f hf=>?_,fun f hf k hk=>?_,?_,fun f hf=>?_⟩⟩
 ·rcases List.mem_append.1 hf with hf | hf
  ·exact All_iff.1 hn.all f hf
  ·refine t1 f (List.mem_append_right _ hf) w w' (fun k hk=>?_) (hall f (List.mem_append_right _ hf))
   have:=hyy f (List.mem_append_right _ hf) k hk
   exact hfr k this.1 this.2 (hQ f hf k hk)
 ·rcases List.mem_append.1 hf with hf | hf
  ·have:=hn.young f hf k hk
   exact ⟨this.1.imp (hmore k) id,this.2⟩
  ·have hk2:=hyy f (List.mem_append_right _ hf) k hk
   refine ⟨.inl (t3 f (List.mem_append_right _ hf) k hk),?_⟩
   rcases Nat.lt_or_ge k w'.heap.size with h1 | h1
   ·exact h1
   ·exfalso
    have e1:=hfr k hk2.1 hk2.2 (hQ f hf k hk)
    rw [Array.getElem?_eq_none h1,Array.getElem?_eq_getElem hk2.2] at e1
    cases e1
 ·rw [List.pairwise_append]
  refine ⟨hn.apart,t2.2.1,fun f hf q hq k hk hk2=>?_⟩
  rcases (hn.young f hf k hk).1 with h1 | h1
  ·exact hQ q hq k hk2 h1
  ·have:=(hyy q (List.mem_append_right _ hq) k hk2).2;omega
 ·rcases List.mem_append.1 hf with hf | hf
  ·exact hn.stable f hf
  ·exact t1 f (List.mem_append_right _ hf)
end Go.Proofs.Ytcpahggkioagkaa
end
section
namespace Go.Proofs.Ytcpahggkioagkaa
set_option maxRecDepth 20000
open Go.RowKit
variable {P:Program} {w0:World} {D:List Fact}
theorem own_loadA {α:Type} {R:Rd α} {size:Nat} {tc:α→Array Value} (hK:Keeps R) (hs0:0 < size) (hR:∀ (w:World) (S:Nat→Prop) (cs:List Value) (x:α),R w S cs x→cs=(tc x).toList) (hts:∀ x,(tc x).size=size) {e T:TypeId} {d:TypeDesc} (hu:P.underlying T=some d) (hd:d.isRow=true) (hi:(P.info? T).map (·.size)=some size) {A:Option Addr} {n c:Nat} {xs:List α} (h:∀ w,All D w→OwnElems R size w 0 e (fun _=>False) A n c xs) {j:Nat} {x:α} (hx:xs[j]?=some x) :
  Yields0 P w0 D (Instr.loadAt T (.pointer (some ⟨blkA A,offA A+j * size,none⟩))) (.agg (tc x)):=by
 intro w hw ha
 obtain ⟨b,o,rfl,_,hc⟩:=elem_at hR ((h w ha).reads hK hs0) hx
 have:=run_loadVar_mid (P:=P) w b (o+j * size) T (tc x).toList d (fun i v hv=>by simpa using hc i v (by simpa using hv)) hu hd (by rw [hi];simp [hts])
 simp only [Instr.loadAt,Instr.sureAddr,Sem.run_bind,Sem.run_pure,Result.andThen_ok,blkA,offA,this]
theorem flat_take {size:Nat} : ∀ (css:List (List Value)) (d:Nat),(∀ x ∈ css,x.length=size)→(css.take d).flatten=css.flatten.take (d * size)
 | [],d,_=>by simp
 |x :: css,0,_=>by simp
 |x :: css,d+1,h=>by
  have hx:=h x (by simp)
  have ih:=flat_take css d (fun y hy=>h y (by simp [hy]))
  rw [List.take_succ_cons,List.flatten_cons,ih,List.flatten_cons,show (d+1) * size=x.length+d * size by rw [hx,Nat.succ_mul];omega,List.take_length_add_append]
theorem flat_drop {size:Nat} : ∀ (css:List (List Value)) (d:Nat),(∀ x ∈ css,x.length=size)→(css.drop d).flatten=css.flatten.drop (d * size)
 | [],d,_=>by simp
 |x :: css,0,_=>by simp
 |x :: css,d+1,h=>by
  have hx:=h x (by simp)
  have ih:=flat_drop css d (fun y hy=>h y (by simp [hy]))
  rw [List.drop_succ_cons,ih,List.flatten_cons,show (d+1) * size=x.length+d * size by rw [hx,Nat.succ_mul];omega,List.drop_length_add_append]
theorem each_take {α:Type} {R:Rd α} {size:Nat} {w:World} {S:Nat→Prop} : ∀ {css:List (List Value)} {xs:List α} (d:Nat),Each R size w S css xs→Each R size w S (css.take d) (xs.take d)
 | [],[],d,_=>by simp [Each]
 | [],_ :: _,_,h=>h.elim
 | _ :: _,[],_,h=>h.elim
 | _ :: _,_ :: _,0,_=>trivial
 | _ :: _,_ :: _,d+1,h=>⟨h.1,h.2.1,each_take d h.2.2⟩
theorem each_drop {α:Type} {R:Rd α} {size:Nat} {w:World} {S:Nat→Prop} : ∀ {css:List (List Value)} {xs:List α} (d:Nat),Each R size w S css xs→Each R size w S (css.drop d) (xs.drop d)
 | [],[],d,_=>by simp [Each]
 | [],_ :: _,_,h=>h.elim
 | _ :: _,[],_,h=>h.elim
 | _ :: _,_ :: _,0,h=>h
 | _ :: _,_ :: _,d+1,h=>each_drop d h.2.2
end Go.Proofs.Ytcpahggkioagkaa
end
