/-
  VcE, VcR, Vt, VcN
-/
import Derived.Test.YtbbjlfbemibfcaaGreatMrr08
set_option linter.unusedVariables false
set_option linter.unusedSimpArgs false
section
namespace Go.Proofs.YtbbjlfbemibfcaaGreat
set_option maxRecDepth 20000
open Go.RowKit
variable {P:Program} {w0:World} {D:List Fact}
theorem q45 {T:TypeId} {x y:Array Value} {b:Bool} (hg:P.eqGuardType P.depth T=false) (he:∀ W,(Op.equalIn 10000 T (.agg x) (.agg y)).run P W = .ok b W) (ox oy:Operand) :
  jd P w0 D (do eqGuard .eql T ox oy (.agg x) (.agg y);Go.binOp .eql T (.agg x) (.agg y)) (.bool b):=by
 intro w _ _
 simp only [eqGuard,Go.binOp,Sem.run_bind]
 simp [hg,Result.andThen_ok,Op.equal,Sem.run_bind,he,Op.maxDepth]
theorem Ri {T:TypeId} {x y:Array Value} {b:Bool} (hg:P.eqGuardType P.depth T=false) (he:∀ W,(Op.equalIn 10000 T (.agg x) (.agg y)).run P W = .ok b W) (ox oy:Operand) :
  jd P w0 D (do eqGuard .neq T ox oy (.agg x) (.agg y);Go.binOp .neq T (.agg x) (.agg y)) (.bool !b):=by
 intro w _ _
 simp only [eqGuard,Go.binOp,Sem.run_bind]
 simp [hg,Result.andThen_ok,Op.equal,Sem.run_bind,he,Op.maxDepth]
end Go.Proofs.YtbbjlfbemibfcaaGreat
end
section
namespace Go.Proofs.YtbbjlfbemibfcaaGreat
set_option maxRecDepth 20000
open Go.RowKit
section
variable {P:Program} {w0:World}
theorem qkk {f:FuncId} {fn:Func} {args:Array Value} {D:List Fact} {α:Type} {r:α→Value} {fs:α→List Fact} {t:Fact→Tree} {X:Fact→Prop} (hf:P.funcs[f]?=some fn)
  (h:∀ fr,Ph P w0 fn args [] [] (D++[fr]) (fun v s => ∃ x,v=r x∧iw w0 s.dyn (fs x++[fr])) (t fr)=X fr) (hX:∀ fr,X fr):qm P w0 D f args α r fs:=by
 intro w hw hall hst hap hyo
 let fr:Fact:=⟨fun w' => ∀ k,w0.heap.size≤k→k < w.heap.size→¬ anyS D k→w'.heap[k]?=w.heap[k]?,fun k=>w0.heap.size≤k∧k < w.heap.size∧¬ anyS D k⟩
 have Yh:∀ f2 ∈ D,∀ k,f2.S k→¬ fr.S k:=fun f2 hm k hk hk2=>hk2.2.2 ⟨f2,hm,hk⟩
 refine (qiz (t:=t fr) (tags:=[]) (blks:=[]) hf ⟨rfl,rfl,fun _ _ _ _ h=>by simp [o9] at h,fun _ _ h=>by simp [o9] at h,fun _ _ _ h=>by simp [Jc] at h,?_,fun _ _ _ _ h=>by simp [o9] at h,?_,List.Pairwise.nil⟩ ⟨hw,fun _ _ h=>by simp [o9] at h,?_,?_⟩ (by rw [h fr];exact hX fr)).mono ?_
 ·intro f2 hm
  rcases List.mem_append.1 hm with hm | hm
  ·exact hst f2 hm
  ·rw [List.mem_singleton.1 hm]
   intro w1 w2 he hF k h1 h2 h3
   exact (he k ⟨h1,h2,h3⟩).trans (hF k h1 h2 h3)
 ·show (D++[fr]).Pairwise _
  rw [List.pairwise_append]
  exact ⟨hap,List.pairwise_singleton _ _,fun f2 hm f3 Nq k hk hk3=>by rw [List.mem_singleton.1 Nq] at hk3;exact Yh f2 hm k hk hk3⟩
 ·refine Bf.2 fun f2 hm=>?_
  rcases List.mem_append.1 hm with hm | hm
  ·exact Bf.1 hall f2 hm
  ·rw [List.mem_singleton.1 hm];exact fun k _ _ _=>rfl
 ·intro f2 hm k hk
  rcases List.mem_append.1 hm with hm | hm
  ·exact hyo f2 hm k hk
  ·rw [List.mem_singleton.1 hm] at hk;exact ⟨hk.1,hk.2.1⟩
 ·rintro e w' ⟨v,s',N',rfl,⟨x,rfl,ht⟩,hh,hg⟩
  obtain ⟨t1,t2,t3,t4⟩:=ht hg.stable hg.yc
  have Ld:=Bf.1 (t4 w' hh.below hh.all)
  rw [List.pairwise_append] at t2
  refine ⟨x,rfl,hh.below,Ld fr (List.mem_append_right _ (List.mem_singleton.2 rfl)),⟨Bf.2 fun f2 hm=>Ld f2 (List.mem_append_left _ hm),fun f2 hm k hk=>?_,t2.1,fun f2 hm=>t1 f2 (List.mem_append_left _ hm)⟩⟩
  obtain ⟨f3,Nq,hk3⟩:=t3 f2 (List.mem_append_left _ hm) k hk
  have hy:=hh.ni f3 Nq k hk3
  refine ⟨?_,hy.2⟩
  by_cases hX2:anyS D k
  ·exact .inl hX2
  ·rcases Nat.lt_or_ge k w.heap.size with hkl | hkl
   ·exact absurd ⟨hy.1,hkl,hX2⟩ (t2.2.2 f2 hm fr (List.mem_singleton.2 rfl) k hk)
   ·exact .inr hkl
end
theorem bn {P:Program} {w0:World} {D D' Q:List Fact} {f:FuncId} {args:Array Value} {α:Type} {r:α→Value} {fs:α→List Fact} (ht:iw w0 D' (D++Q)) (h:qm P w0 D f args α r fs):qm P w0 D' f args α r (fun x=>fs x++Q):=by
 intro w hw ha hs hp hy
 obtain ⟨t1,t2,t3,t4⟩:=ht hs hp
 rw [List.pairwise_append] at t2
 have hall:=Bf.1 (t4 w hw ha)
 have Ug:∀ f ∈ D++Q,∀ k,f.S k→w0.heap.size≤k∧k < w.heap.size:=fun f hf k hk=>by
  obtain ⟨g,hg,hgk⟩:=t3 f hf k hk
  exact hy g hg k hgk
 refine (h w hw (Bf.2 fun f hf=>hall f (List.mem_append_left _ hf)) (fun f hf=>t1 f (List.mem_append_left _ hf)) t2.1 (fun f hf=>Ug f (List.mem_append_left _ hf))).mono ?_
 rintro e w' ⟨x,rfl,hb,hfr,hn⟩
 have hmore:∀ k,anyS D k→anyS D' k:=fun k ⟨f,hf,hk⟩=>t3 f (List.mem_append_left _ hf) k hk
 have hQ:∀ f ∈ Q,∀ k,f.S k→¬ anyS D k:=fun f hf k hk ⟨g,hg,hgk⟩=>t2.2.2 g hg f hf k hgk hk
 refine ⟨x,rfl,hb,fun k h1 h2 h3=>hfr k h1 h2 (fun h4=>h3 (hmore k h4)),⟨Bf.2 fun f hf=>?_,fun f hf k hk=>?_,?_,fun f hf=>?_⟩⟩
 ·rcases List.mem_append.1 hf with hf | hf
  ·exact Bf.1 hn.all f hf
  ·refine t1 f (List.mem_append_right _ hf) w w' (fun k hk=>?_) (hall f (List.mem_append_right _ hf))
   have:=Ug f (List.mem_append_right _ hf) k hk
   exact hfr k this.1 this.2 (hQ f hf k hk)
 ·rcases List.mem_append.1 hf with hf | hf
  ·have:=hn.ni f hf k hk
   exact ⟨this.1.imp (hmore k) id,this.2⟩
  ·have hk2:=Ug f (List.mem_append_right _ hf) k hk
   refine ⟨.inl (t3 f (List.mem_append_right _ hf) k hk),?_⟩
   rcases Nat.lt_or_ge k w'.heap.size with h1 | h1
   ·exact h1
   ·exfalso
    have e1:=hfr k hk2.1 hk2.2 (hQ f hf k hk)
    rw [Array.getElem?_eq_none h1,Array.getElem?_eq_getElem hk2.2] at e1
    cases e1
 ·rw [List.pairwise_append]
  refine ⟨hn.apart,t2.2.1,fun f hf q hq k hk hk2=>?_⟩
  rcases (hn.ni f hf k hk).1 with h1 | h1
  ·exact hQ q hq k hk2 h1
  ·have:=(Ug q (List.mem_append_right _ hq) k hk2).2;omega
 ·rcases List.mem_append.1 hf with hf | hf
  ·exact hn.stable f hf
  ·exact t1 f (List.mem_append_right _ hf)
theorem Uh {P:Program} {w0:World} {D:List Fact} {f:FuncId} {args:Array Value} {α:Type} {r:α→Value} {fs gs:α→List Fact} (ht:∀ x,iw w0 (fs x) (gs x)) (h:qm P w0 D f args α r fs):qm P w0 D f args α r gs:=by
 intro w hw ha hs hp hy
 refine (h w hw ha hs hp hy).mono ?_
 rintro e w' ⟨x,rfl,hb,hfr,hn⟩
 obtain ⟨t1,t2,t3,t4⟩:=ht x hn.stable hn.apart
 refine ⟨x,rfl,hb,hfr,⟨t4 w' hb hn.all,fun f hf k hk=>?_,t2,t1⟩⟩
 obtain ⟨g,hg,hgk⟩:=t3 f hf k hk
 exact hn.ni g hg k hgk
end Go.Proofs.YtbbjlfbemibfcaaGreat
end
section
namespace Go.Proofs.YtbbjlfbemibfcaaGreat.book
set_option maxRecDepth 20000
theorem vt {p:Prop} [Decidable p] (h:p):(.bool true:Value) = .bool (decide p):=by rw [decide_eq_true h]
theorem vf {p:Prop} [Decidable p] (h:¬ p):(.bool false:Value) = .bool (decide p):=by rw [decide_eq_false h]
end Go.Proofs.YtbbjlfbemibfcaaGreat.book
end
section
namespace Go.Proofs.YtbbjlfbemibfcaaGreat
set_option maxRecDepth 20000
open Go.RowKit
variable {P:Program} {w0:World} {D:List Fact}
theorem qqs (z:Array Value):∀ n,(madeCells z (n * z.size)).toList=(List.replicate n z.toList).flatten
 | 0=>by simp [madeCells]
 |n + 1=>by
  have ih:=qqs z n
  have h1:(madeCells z ((n+1) * z.size)).toList=(madeCells z (n * z.size)).toList++z.toList:=by
   apply List.ext_getElem?
   intro i
   have hl:(madeCells z (n * z.size)).toList.length=n * z.size:=by simp [madeCells]
   rcases Nat.lt_or_ge i (n * z.size) with hi | hi
   ·rw [List.getElem?_append_left (by omega)]
    have:i < (n+1) * z.size:=by rw [Nat.succ_mul];omega
    simp [madeCells,hi,this]
   ·rw [List.getElem?_append_right (by omega),hl]
    rcases Nat.lt_or_ge i ((n+1) * z.size) with h2 | h2
    ·rw [Nat.succ_mul] at h2
     have h3:i - n * z.size < z.size:=by omega
     have h4:i % z.size=i - n * z.size:=by
      have e:i=(i - n * z.size)+n * z.size:=by omega
      conv=>lhs;rw [e]
      rw [Nat.add_mul_mod_self_right,Nat.mod_eq_of_lt h3]
     have h5:i < (n+1) * z.size:=by rw [Nat.succ_mul];omega
     simp [madeCells,h5,h4,h3]
    ·rw [List.getElem?_eq_none (by simp [madeCells];omega),List.getElem?_eq_none (by rw [Nat.succ_mul] at h2;simp;omega)]
  rw [h1,ih]
  conv=>rhs;rw [List.replicate_succ']
  simp
theorem qsh {α:Type} {R:Rd α} {size:Nat} {w:World} {S:Nat→Prop} {cs:List Value} {x:α} (hl:cs.length=size) (hr:R w S cs x):∀ n,Each R size w S (List.replicate n cs) (List.replicate n x)
 | 0=>trivial
 |n+1=>⟨hl,hr,qsh hl hr n⟩
theorem Oo {α:Type} {R:Rd α} (hK:qc2 R) {t e:TypeId} {bytes n size:Nat} {z:Value} {x:α} (ht:P.underlying t=some (.slice e)) (hinfo:(P.info? e).map (fun i=>(i.zero,i.size,i.bytes))=some (some z,size,bytes)) (hz:z.cells.size=size) (hr:∀ w,R w (fun _=>False) z.cells.toList x) (hn:bytes * n≤281474976710656) (h63:n≤maxLen) :
  jw P w0 D (Instr.makeSlice t (.int .i64 (n:Int)) (.int .i64 (n:Int))) (fun _=>False) Nat (fun g=>.slice (some ⟨g,0,none⟩) n n) (fun g=>[ah R size e (some ⟨g,0,none⟩) n n (List.replicate n x)]):=by
 intro w hw ha
 obtain ⟨i,hi,hzz⟩:=Option.map_eq_some_iff.1 hinfo
 simp only [Prod.mk.injEq] at hzz
 obtain ⟨h1,h2,h3⟩:=hzz
 have hb' : (i.bytes:Int) * (n:Int)≤281474976710656:=by
  have h:((i.bytes * n:Nat):Int)≤281474976710656:=by rw [h3];omega
  rwa [Int.natCast_mul] at h
 have hr':=run_make (P:=P) w t e i z ht hi h1 .i64 .i64 n n (by omega) (Int.le_refl _) hb' (by unfold maxLen at h63;omega)
 simp only [Int.toNat_natCast,h2] at hr'
 refine ⟨w.heap.size,_,hr',qh6 _ _ _,Om ?_ (Ko hK) (fun g hg=>?_)⟩
 ·refine ⟨List.replicate n z.cells.toList,⟨?_,.inr ⟨w.heap.size,n,_,rfl,Nat.zero_le _,heap_alloc_new w _,Nat.le_refl _,h63,size_madeCells _ _,?_⟩⟩,qsh (by simpa using hz) (hr _) n,by simp⟩
  ·simp [hz]
  ·rw [← hz,qqs,List.take_of_length_le (by simp)]
 ·simp only [ah,Value.ownBlock] at hg
  have hg:=Option.some.inj hg
  exact ⟨.inr (by omega),by simp;omega⟩
theorem qqt {α:Type} {R:Rd α} {size:Nat} {tc:α→Array Value} (hK:qc2 R) (hs0:0 < size) (hR:∀ (w:World) (S:Nat→Prop) (cs:List Value) (x:α),R w S cs x→cs=(tc x).toList) (hts:∀ x,(tc x).size=size) {e T:TypeId} {d:TypeDesc} (hu:P.underlying T=some d) (hd:d.isRow=true) (hi:(P.info? T).map (·.size)=some size) {A:Option Addr} {n c:Nat} {xs:List α} (h:∀ w,All D w→um R size w 0 e (fun _=>False) A n c xs) {j:Nat} {x:α} (hx:xs[j]?=some x) :
  jd P w0 D (Instr.loadAt T (.pointer (some ⟨au A,ay A+j * size,none⟩))) (.agg (tc x)):=by
 intro w hw ha
 obtain ⟨b,o,rfl,_,hc⟩:=Zy hR ((h w ha).reads hK hs0) hx
 have:=run_loadVar_mid (P:=P) w b (o+j * size) T (tc x).toList d (fun i v hv=>by simpa using hc i v (by simpa using hv)) hu hd (by rw [hi];simp [hts])
 simp only [Instr.loadAt,Instr.sureAddr,Sem.run_bind,Sem.run_pure,Result.andThen_ok,au,ay,this]
theorem qw4 {f:FuncId} {args:Array Value} {r:Value} {i:Nat} {f0 f1:Fact} (hi:D[i]?=some f0) (hS:∀ k,f1.S k→f0.S k) (hst:Stable f1)
  (hc:∀ w,f0.F w→(∀ k,f0.S k→k < w.heap.size)→Calls P f args w fun e w'=>e = .returned r∧f1.F w'∧Dk f0.S w w'):qm P w0 D f args Unit (fun _=>r) (fun _=>D.set i f1):=by
 intro w hw ha hs hp hy
 have hm:=List.mem_of_getElem? hi
 have hil:=(List.getElem?_eq_some_iff.1 hi).1
 refine (hc w (Bf.1 ha f0 hm) (fun k hk=>(hy f0 hm k hk).2)).mono ?_
 rintro e w' ⟨rfl,hF,hfr⟩
 have hoff:∀ f ∈ D,(∃ j,j≠i∧D[j]?=some f)→∀ k,f.S k→¬ f0.S k:=fun f hf ⟨j,hne,hj⟩ k hk hk0=>by
  obtain ⟨hjl,ej⟩:=List.getElem?_eq_some_iff.1 hj
  obtain ⟨_,ei⟩:=List.getElem?_eq_some_iff.1 hi
  rcases Nat.lt_or_ge j i with hlt | hge
  ·have:=List.pairwise_iff_getElem.1 hp j i hjl hil hlt k (by rw [ej];exact hk)
   rw [ei] at this;exact this hk0
  ·have:=List.pairwise_iff_getElem.1 hp i j hil hjl (by omega) k (by rw [ei];exact hk0)
   rw [ej] at this;exact this hk
 have hset:∀ f,f ∈ D.set i f1→f=f1∨∃ j,j≠i∧D[j]?=some f:=fun f hf=>by
  obtain ⟨j,hj⟩:=List.mem_iff_getElem?.1 hf
  rw [List.getElem?_set] at hj
  split at hj
  ·exact .inl (Option.some.inj hj).symm
  ·rename_i hne;exact .inr ⟨j,Ne.symm hne,hj⟩
 refine ⟨(),rfl,⟨hfr.os.trans hw.os,hfr.tape.trans hw.tape,hfr.output.trans hw.output,Nat.le_trans hw.size hfr.size,fun k hk=>(hfr.block k (Nat.lt_of_lt_of_le hk hw.size) (fun h0=>by have:=(hy f0 hm k h0).1;omega)).trans (hw.block k hk)⟩,
  fun k h1 h2 h3=>hfr.block k h2 (fun h0=>h3 ⟨f0,hm,h0⟩),⟨Bf.2 fun f hf=>?_,fun f hf k hk=>?_,?_,fun f hf=>?_⟩⟩
 ·rcases hset f hf with rfl | ⟨j,hne,hj⟩
  ·exact hF
  ·have hfm:=List.mem_of_getElem? hj
   exact hs f hfm w w' (fun k hk=>hfr.block k (hy f hfm k hk).2 (hoff f hfm ⟨j,hne,hj⟩ k hk)) (Bf.1 ha f hfm)
 ·rcases hset f hf with rfl | ⟨j,hne,hj⟩
  ·exact ⟨.inl ⟨f0,hm,hS k hk⟩,Nat.lt_of_lt_of_le (hy f0 hm k (hS k hk)).2 hfr.size⟩
  ·have hfm:=List.mem_of_getElem? hj
   exact ⟨.inl ⟨f,hfm,hk⟩,Nat.lt_of_lt_of_le (hy f hfm k hk).2 hfr.size⟩
 ·rw [List.pairwise_iff_getElem]
  intro a b hal hbl hab k hk hk2
  simp only [List.length_set] at hal hbl
  rw [List.getElem_set] at hk hk2
  by_cases ha1:i=a
  ·subst ha1
   rw [if_pos rfl] at hk
   rw [if_neg (by omega)] at hk2
   exact hoff _ (List.getElem_mem hbl) ⟨b,by omega,List.getElem?_eq_getElem hbl⟩ k hk2 (hS k hk)
  ·rw [if_neg ha1] at hk
   by_cases hb1:i=b
   ·subst hb1
    rw [if_pos rfl] at hk2
    exact hoff _ (List.getElem_mem hal) ⟨a,by omega,List.getElem?_eq_getElem hal⟩ k hk (hS k hk2)
   ·rw [if_neg hb1] at hk2
    exact List.pairwise_iff_getElem.1 hp a b hal hbl hab k hk hk2
 ·rcases hset f hf with rfl | ⟨j,hne,hj⟩
  ·exact hst
  ·exact hs f (List.mem_of_getElem? hj)
theorem qyh {P:Program} (w:World) (dT sT ty elem:TypeId) (b o dLen dCap:Nat) (a:Addr) (sLen sCap k size:Nat) (cs:List Value)
  (hu:P.underlying dT=some (.slice elem)) (hs:(P.info? elem).map (·.size)=some size) (hk:Nat.min sLen dLen=k) (hn:cs.length=k * size)
  (hsrc:∀ j v,cs[j]?=some v→w.cell? (a.add j)=some v) (hc:∀ j,j < cs.length→(w.cell? ⟨b,o+j,none⟩).isSome=true) (hf:∀ j,j < cs.length→w.frozen? ⟨b,o+j,none⟩=false) (h1:∀ v ∈ cs,v.oneCell'=true) :
  (Builtin.copy_ #[dT,sT] ty #[.slice (some ⟨b,o,none⟩) dLen dCap,.slice (some a) sLen sCap]).run P w = .ok (goInt k) (w.setCells b o cs):=by
 have hl:=run_loadCells_list (P:=P) w a cs hsrc
 have hst:=run_storeCells_cells (P:=P) b o cs 0 w (by simpa using hc) (by simpa using hf) h1
 cases hq:P.info? elem with
 |none=>simp [hq] at hs
 |some i =>
  have hi:i.size=size:=by simpa [hq] using hs
  rw [hn] at hl
  simp [Builtin.copy_,run_underlying hu,Builtin.lenOf,Builtin.firstCells,sizeOf,typeInfo,hq,hi,hk,hl,hst]
theorem wz {size:Nat} : ∀ (css:List (List Value)) (d:Nat),(∀ x ∈ css,x.length=size)→(css.take d).flatten=css.flatten.take (d * size)
 | [],d,_=>by simp
 |x :: css,0,_=>by simp
 |x :: css,d+1,h=>by
  have hx:=h x (by simp)
  have ih:=wz css d (fun y hy=>h y (by simp [hy]))
  rw [List.take_succ_cons,List.flatten_cons,ih,List.flatten_cons,show (d+1) * size=x.length+d * size by rw [hx,Nat.succ_mul];omega,List.take_length_add_append]
theorem ql0 {size:Nat} : ∀ (css:List (List Value)) (d:Nat),(∀ x ∈ css,x.length=size)→(css.drop d).flatten=css.flatten.drop (d * size)
 | [],d,_=>by simp
 |x :: css,0,_=>by simp
 |x :: css,d+1,h=>by
  have hx:=h x (by simp)
  have ih:=ql0 css d (fun y hy=>h y (by simp [hy]))
  rw [List.drop_succ_cons,ih,List.flatten_cons,show (d+1) * size=x.length+d * size by rw [hx,Nat.succ_mul];omega,List.drop_length_add_append]
theorem qjy {α:Type} {R:Rd α} {size:Nat} {w:World} {S:Nat→Prop} : ∀ {css:List (List Value)} {xs:List α} (d:Nat),Each R size w S css xs→Each R size w S (css.take d) (xs.take d)
 | [],[],d,_=>by simp [Each]
 | [],_ :: _,_,h=>h.elim
 | _ :: _,[],_,h=>h.elim
 | _ :: _,_ :: _,0,_=>trivial
 | _ :: _,_ :: _,d+1,h=>⟨h.1,h.2.1,qjy d h.2.2⟩
theorem qqu {α:Type} {R:Rd α} {size:Nat} {w:World} {S:Nat→Prop} : ∀ {css:List (List Value)} {xs:List α} (d:Nat),Each R size w S css xs→Each R size w S (css.drop d) (xs.drop d)
 | [],[],d,_=>by simp [Each]
 | [],_ :: _,_,h=>h.elim
 | _ :: _,[],_,h=>h.elim
 | _ :: _,_ :: _,0,h=>h
 | _ :: _,_ :: _,d+1,h=>qqu d h.2.2
theorem qnw {α:Type} {R:Rd α} {size:Nat} {w:World} {S:Nat→Prop} : ∀ {css ds:List (List Value)} {xs ys:List α},Each R size w S css xs→Each R size w S ds ys→Each R size w S (css++ds) (xs++ys)
 | [],_,[],_,_,h=>h
 | [],_,_ :: _,_,h,_=>h.elim
 | _ :: _,_,[],_,h,_=>h.elim
 | _ :: _,_,_ :: _,_,h,g=>⟨h.1,h.2.1,qnw h.2.2 g⟩
theorem qqv {α:Type} {R:Rd α} (hL:Leaf R) {size:Nat} {w:World} {S:Nat→Prop} : ∀ {css:List (List Value)} {xs:List α},Each R size w S css xs→∀ u ∈ css.flatten,u.oneCell'=true
 | [],_,_,u,hu=>by simp at hu
 | _ :: _,[],h,_,_=>h.elim
 |cs :: css,x :: xs,h,u,hu=>by
  rw [List.flatten_cons,List.mem_append] at hu
  rcases hu with hu | hu
  ·exact hL _ _ _ _ h.2.1 u hu
  ·exact qqv hL h.2.2 u hu
theorem qu5 {α:Type} {R:Rd α} {size:Nat} {w w' : World} {S:Nat→Prop} (hF:∀ {cs x},R w S cs x→R w' S cs x):∀ {css:List (List Value)} {xs:List α},Each R size w S css xs→Each R size w' S css xs
 | [],[],_=>trivial
 | [],_ :: _,h=>h.elim
 | _ :: _,[],h=>h.elim
 | _ :: _,_ :: _,h=>⟨h.1,hF h.2.1,qu5 hF h.2.2⟩
theorem qjz {α:Type} {R:Rd α} (hK:qc2 R) (hL:Leaf R) (hF:∀ {w w' S S' cs x},R w S cs x→R w' S' cs x) {size bytes:Nat} {z:Value} {t ty e:TypeId} (ht:P.underlying t=some (.slice e)) (hinfo:(P.info? e).map (fun i=>(i.zero,i.size,i.bytes))=some (some z,size,bytes))
  {A:Option Addr} {n c:Nat} {xs:List α} {d dl dc:Nat} {A1 A2:Option Addr} {m2 c2 k:Nat} {ys:List α} (hrow:∀ w,All D w→um R size w 0 e (fun _=>False) A n c xs) (hd:d < n) (hA1:∀ g,A=some ⟨g,0,none⟩→A1=some ⟨g,d * size,none⟩) (hdl:dl=n - d)
  (hsrc:∀ w,Below w0.heap.size w0 w→All D w→∃ S,ql R size w S A2 ys) (hm:ys.length=m2) (hk:Nat.min m2 dl=k) (hk0:0 < k) :
  jw P w0 D (Builtin.copy_ #[t,t] ty #[.slice A1 dl dc,.slice A2 m2 c2]) (ah R size e A n c xs).S Unit (fun _=>.int .i64 (k:Int)) (fun _=>[ah R size e A n c (xs.take d++ys.take k++xs.drop (d+k))]):=by
 intro w hw ha
 have ho:=hrow w ha
 obtain ⟨g,rfl,_,hg⟩:=ho.Eo (by omega)
 have hA1:=hA1 g rfl
 subst hA1 hdl
 have hkn:k≤n - d:=by rw [← hk];exact Nat.min_le_right _ _
 have hkm:k≤m2:=by rw [← hk];exact Nat.min_le_left _ _
 obtain ⟨S,hs⟩:=hsrc w hw ha
 obtain ⟨css,he,hc⟩:=ql.each hs
 obtain ⟨b,off,rfl,hcell⟩:=(fun h=>by obtain ⟨b,off,e1,_,e2⟩:=hc h;exact ⟨b,off,e1,e2⟩:0 < ys.length→∃ b off,A2=some ⟨b,off,none⟩∧∀ (j:Nat) (v:Value),css.flatten[j]?=some v→w.cell? ⟨b,off+j,none⟩=some v) (by omega)
 obtain ⟨Pv,⟨hcl,hr⟩,hE,hxl⟩:=ho
 rcases hr with ⟨hv,_⟩ | ⟨g',cap,cur,hv,_,hgc,hnc,hcm,hsz,hcur⟩
 ·simp at hv
 simp only [Value.slice.injEq,Option.some.injEq,Addr.mk.injEq,and_true,true_and] at hv
 obtain ⟨rfl,rfl⟩:=hv
 have hcz:cur.toList.length=c * size:=by rw [Array.length_toList,hsz]
 have hle:n * size≤c * size:=Nat.mul_le_mul_right _ hnc
 have hdk:(d+k) * size≤n * size:=Nat.mul_le_mul_right _ (by omega)
 rw [Nat.add_mul] at hdk
 have hcs:((css.take k).flatten).length=k * size:=by
  rw [wz css k he.lens,List.length_take]
  have:css.flatten.length=m2 * size:=by rw [he.len.2,hm]
  have h2:k * size≤m2 * size:=Nat.mul_le_mul_right _ hkm
  omega
 obtain ⟨i,hi,hz1⟩:=Option.map_eq_some_iff.1 hinfo
 simp only [Prod.mk.injEq] at hz1
 have hrun:=qyh (P:=P) w t t ty e g (d * size) (n - d) dc ⟨b,off,none⟩ m2 c2 k size ((css.take k).flatten) ht (by rw [hi];simp [hz1.2.1]) hk hcs (fun j v hj=>by
   rw [Addr.add_lit]
   refine hcell j v ?_
   have hjl:=(List.getElem?_eq_some_iff.1 hj).1
   rw [wz css k he.lens,List.getElem?_take,if_pos (by omega)] at hj
   exact hj) (fun j hj=>by rw [(Dj hgc (d * size+j) _ (Array.getElem?_eq_getElem (by rw [hsz];omega))).1];rfl) (fun j hj=>(Dj hgc (d * size+j) _ (Array.getElem?_eq_getElem (by rw [hsz];omega))).2) (fun u hu=>qqv hL (qjy k he) u hu)
 have hset:=Va (T:=e) (g:=g) ((css.take k).flatten) (d * size) w cur.toList (by simpa using hgc) (by rw [hcs,hcz];omega)
 refine ⟨(),w.setCells g (d * size) ((css.take k).flatten),hrun,⟨?_,?_,?_,?_,?_⟩,Om ?_ (Ko hK) (fun q hq=>?_)⟩
 ·exact (Ii (Nat.zero_le _) _ _ w (Below.refl 0 w)).os
 ·exact (Ii (Nat.zero_le _) _ _ w (Below.refl 0 w)).tape
 ·exact (Ii (Nat.zero_le _) _ _ w (Below.refl 0 w)).output
 ·rw [setCells_size];exact Nat.le_refl _
 ·intro q _ hq
  refine Wu (fun e2=>hq ?_) _ _ _
  subst e2;simp only [ah,Value.ownBlock]
 ·refine ⟨Pv.take d++css.take k++Pv.drop (d+k),⟨?_,.inr ⟨g,c,_,rfl,Nat.zero_le _,hset,hnc,hcm,?_,?_⟩⟩,qu5 hF (qnw (qnw (qjy d hE) (qnt hF (qjy k he))) (qqu (d+k) hE)),?_⟩
  ·rw [List.flatten_append,List.flatten_append,List.length_append,List.length_append,hcs,wz Pv d hE.lens,ql0 Pv (d+k) hE.lens,List.length_take,List.length_drop,hcl,Nat.add_mul];omega
  ·rw [List.size_toArray,List.length_append,List.length_append,hcs,List.length_take,List.length_drop,hcz];omega
  ·rw [List.toList_toArray,hcs,← hcs,qr5 _ _ _ _ (by rw [hcs];omega) (by rw [hcz];exact hle),hcur,hcs,List.flatten_append,List.flatten_append,wz Pv d hE.lens,ql0 Pv (d+k) hE.lens,Nat.add_mul]
  ·simp only [List.length_append,List.length_take,List.length_drop,hxl,hm];omega
 ·simp only [ah,Value.ownBlock,Option.some.injEq] at hq
  subst hq
  exact ⟨.inl (by simp only [ah,Value.ownBlock]),by rw [setCells_size];exact hg⟩
theorem qk3 {m:Sem Value} {X:Nat→Prop} {r:Unit→Value} {α:Type} {R:Rd α} {size n c:Nat} {e:TypeId} {A:Option Addr} {xs ys:List α} (h:xs=ys) (hs:jw P w0 D m X Unit r (fun _=>[ah R size e A n c xs])):jw P w0 D m X Unit r (fun _=>[ah R size e A n c ys]):=h▸hs
end Go.Proofs.YtbbjlfbemibfcaaGreat
end
