/-
  VcE, VcR
-/
import Derived.Test.YtlipgnenbdchmaaMsg10
set_option linter.unusedVariables false
set_option linter.unusedSimpArgs false
section
namespace Go.Proofs.Ytlipgnenbdchmaa
set_option maxRecDepth 20000
open Go.RowKit
variable {P:Program} {w0:World} {D:List Fact}
theorem eql_agg {T:TypeId} {x y:Array Value} {b:Bool} (hg:P.eqGuardType P.depth T=false) (he:∀ W,(Op.equalIn 10000 T (.agg x) (.agg y)).run P W = .ok b W) (ox oy:Operand) :
  Yields0 P w0 D (do eqGuard .eql T ox oy (.agg x) (.agg y);Go.binOp .eql T (.agg x) (.agg y)) (.bool b):=by
 intro w _ _
 simp only [eqGuard,Go.binOp,Sem.run_bind]
 simp [hg,Result.andThen_ok,Op.equal,Sem.run_bind,he,Op.maxDepth]
theorem neq_agg {T:TypeId} {x y:Array Value} {b:Bool} (hg:P.eqGuardType P.depth T=false) (he:∀ W,(Op.equalIn 10000 T (.agg x) (.agg y)).run P W = .ok b W) (ox oy:Operand) :
  Yields0 P w0 D (do eqGuard .neq T ox oy (.agg x) (.agg y);Go.binOp .neq T (.agg x) (.agg y)) (.bool !b):=by
 intro w _ _
 simp only [eqGuard,Go.binOp,Sem.run_bind]
 simp [hg,Result.andThen_ok,Op.equal,Sem.run_bind,he,Op.maxDepth]
end Go.Proofs.Ytlipgnenbdchmaa
end
section
namespace Go.Proofs.Ytlipgnenbdchmaa
set_option maxRecDepth 20000
open Go.RowKit
section
variable {P:Program} {w0:World}
theorem gives_r {f:FuncId} {fn:Func} {args:Array Value} {D:List Fact} {α:Type} {r:α→Value} {fs:α→List Fact} {t:Fact→Tree} {X:Fact→Prop} (hf:P.funcs[f]?=some fn)
  (h:∀ fr,funX P w0 fn args [] [] (D++[fr]) (fun v s => ∃ x,v=r x∧Turns w0 s.dyn (fs x++[fr])) (t fr)=X fr) (hX:∀ fr,X fr):GivesD P w0 D f args α r fs:=by
 intro w hw hall hst hap hyo
 let fr:Fact:=⟨fun w' => ∀ k,w0.heap.size≤k→k < w.heap.size→¬ anyS D k→w'.heap[k]?=w.heap[k]?,fun k=>w0.heap.size≤k∧k < w.heap.size∧¬ anyS D k⟩
 have hfrS:∀ f2 ∈ D,∀ k,f2.S k→¬ fr.S k:=fun f2 hm k hk hk2=>hk2.2.2 ⟨f2,hm,hk⟩
 refine (funX_sound (t:=t fr) (tags:=[]) (blks:=[]) hf ⟨rfl,rfl,fun _ _ _ _ h=>by simp [findB] at h,fun _ _ h=>by simp [findB] at h,fun _ _ _ h=>by simp [findT] at h,?_,fun _ _ _ _ h=>by simp [findB] at h,?_,List.Pairwise.nil⟩ ⟨hw,fun _ _ h=>by simp [findB] at h,?_,?_⟩ (by rw [h fr];exact hX fr)).mono ?_
 ·intro f2 hm
  rcases List.mem_append.1 hm with hm | hm
  ·exact hst f2 hm
  ·rw [List.mem_singleton.1 hm]
   intro w1 w2 he hF k h1 h2 h3
   exact (he k ⟨h1,h2,h3⟩).trans (hF k h1 h2 h3)
 ·show (D++[fr]).Pairwise _
  rw [List.pairwise_append]
  exact ⟨hap,List.pairwise_singleton _ _,fun f2 hm f3 hm3 k hk hk3=>by rw [List.mem_singleton.1 hm3] at hk3;exact hfrS f2 hm k hk hk3⟩
 ·refine All_iff.2 fun f2 hm=>?_
  rcases List.mem_append.1 hm with hm | hm
  ·exact All_iff.1 hall f2 hm
  ·rw [List.mem_singleton.1 hm];exact fun k _ _ _=>rfl
 ·intro f2 hm k hk
  rcases List.mem_append.1 hm with hm | hm
  ·exact hyo f2 hm k hk
  ·rw [List.mem_singleton.1 hm] at hk;exact ⟨hk.1,hk.2.1⟩
 ·rintro e w' ⟨v,s',N',rfl,⟨x,rfl,ht⟩,hh,hg⟩
  obtain ⟨t1,t2,t3,t4⟩:=ht hg.stable hg.apartF
  have hall2:=All_iff.1 (t4 w' hh.below hh.all)
  rw [List.pairwise_append] at t2
  refine ⟨x,rfl,hh.below,hall2 fr (List.mem_append_right _ (List.mem_singleton.2 rfl)),⟨All_iff.2 fun f2 hm=>hall2 f2 (List.mem_append_left _ hm),fun f2 hm k hk=>?_,t2.1,fun f2 hm=>t1 f2 (List.mem_append_left _ hm)⟩⟩
  obtain ⟨f3,hm3,hk3⟩:=t3 f2 (List.mem_append_left _ hm) k hk
  have hy:=hh.young f3 hm3 k hk3
  refine ⟨?_,hy.2⟩
  by_cases hX2:anyS D k
  ·exact .inl hX2
  ·rcases Nat.lt_or_ge k w.heap.size with hkl | hkl
   ·exact absurd ⟨hy.1,hkl,hX2⟩ (t2.2.2 f2 hm fr (List.mem_singleton.2 rfl) k hk)
   ·exact .inr hkl
end
end Go.Proofs.Ytlipgnenbdchmaa
end
