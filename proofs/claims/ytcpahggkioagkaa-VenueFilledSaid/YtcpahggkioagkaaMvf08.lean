/-
  VcS
-/
import Derived.LoopN
import Derived.Test.YtcpahggkioagkaaMvf07
set_option linter.unusedVariables false
set_option linter.unusedSimpArgs false
namespace Go.Proofs.Ytcpahggkioagkaa
set_option maxRecDepth 20000
open Go.RowKit
variable {P:Program} {w0:World} {N:Nat}
def Blk.isOwn (b:Blk):Prop := ∃ T,b.own = .own T
def BOk (w0:World) (D:List Fact) (w:World) (b:Blk):Prop:=match b.own with
 | .own T=>b.o=0∧w0.heap.size≤b.g∧w.heap[b.g]?=some (.cells b.cells T (0,0))
 | .low=>Reads0 w0 [] b.g b.o b.cells
 | .dyn=>Reads0 w0 D b.g b.o b.cells
structure Good (w0:World) (N:Nat) (s:St0):Prop where
 size:s.act.tmps.size=N
 defers:s.act.defers=[]
 apart:∀ id b id' b',findB s.blks id=some b→findB s.blks id'=some b'→b.isOwn→b'.isOwn→id≠id'→b.g≠b'.g
 fresh:∀ id b,findB s.blks id=some b→id < s.nxt
 tag:∀ t id off,findT s.tags t=some (id,off)→∃ b,findB s.blks id=some b∧s.act.tmps.getD t undef = .pointer (some ⟨b.g,b.o+off,none⟩)
 stable:∀ f ∈ s.dyn,Stable f
 apartB:∀ f ∈ s.dyn,∀ id b,findB s.blks id=some b→b.isOwn→¬ f.S b.g
 apartF:s.dyn.Pairwise fun f g => ∀ k,f.S k→¬ g.S k
 ids:s.blks.Pairwise fun x y=>x.1≠y.1
structure Hold (w0:World) (s:St0) (w:World):Prop where
 below:Below w0.heap.size w0 w
 blk:∀ id b,findB s.blks id=some b→BOk w0 s.dyn w b
 all:All s.dyn w
 young:∀ f ∈ s.dyn,∀ k,f.S k→w0.heap.size≤k∧k < w.heap.size
theorem cellsF_stable (g:Nat) (cs:Array Value) (e:TypeId):Stable (cellsF g cs e):=fun w w' h hf=>(h g rfl).trans hf
theorem All_iff {w:World} : ∀ {l:List Fact},All l w ↔ ∀ f ∈ l,f.F w
 | []=>by simp [All]
 |f :: l=>by simp [All,All_iff]
theorem imp_sub {D D' : List Fact} (h:∀ f ∈ D,f ∈ D'):Imp w0 D' D:=fun w _ ha=>All_iff.2 fun f hf=>All_iff.1 ha f (h f hf)
theorem imp_more {D D' : List Fact} {fs:List Fact} (h:Imp w0 D' D):Imp w0 (fs++D') D:=fun w hw ha=>h w hw (All_iff.2 fun f hf=>All_iff.1 ha f (List.mem_append_right _ hf))
theorem Reads0.mono {D D' : List Fact} {g o:Nat} {cells:Array Value} (h:Reads0 w0 D g o cells) (hD:Imp w0 D' D):Reads0 w0 D' g o cells :=
 fun w hw ha=>h w hw (hD w hw ha)
theorem BOk.mono {D D' : List Fact} {w:World} {b:Blk} (h:BOk w0 D w b) (hD:Imp w0 D' D):BOk w0 D' w b:=by
 unfold BOk at *
 split<;>rename_i hk<;>simp only [hk] at h
 ·exact h
 ·exact h
 ·exact h.mono hD
theorem BOk.cell {D:List Fact} {w:World} {b:Blk} (h:BOk w0 D w b) (hw:Below w0.heap.size w0 w) (ha:All D w) {i:Nat} {v:Value} (hi:b.cells[i]?=some v):w.cell? ⟨b.g,b.o+i,none⟩=some v:=by
 unfold BOk at h
 split at h
 ·obtain ⟨h1,_,h2⟩:=h
  rw [h1,Nat.zero_add]
  exact (block_cell h2 i v hi).1
 ·exact h w hw trivial i v hi
 ·exact h w hw ha i v hi
theorem BOk.lt {D:List Fact} {w:World} {b:Blk} (h:BOk w0 D w b) (ho:b.isOwn):w0.heap.size≤b.g∧b.g < w.heap.size:=by
 obtain ⟨T,hT⟩:=ho
 unfold BOk at h
 simp only [hT] at h
 exact ⟨h.2.1,(Array.getElem?_eq_some_iff.1 h.2.2).1⟩
theorem BOk.later {D:List Fact} {w w' : World} {b:Blk} (h:BOk w0 D w b) (hw:b.isOwn→b.g < w.heap.size→w'.heap[b.g]?=w.heap[b.g]?):BOk w0 D w' b:=by
 have hl:=h.lt
 unfold BOk at *
 split
 ·rename_i T hT
  simp only [hT] at h
  have ho:b.isOwn:=⟨T,hT⟩
  exact ⟨h.1,h.2.1,(hw ho (hl ho).2).trans h.2.2⟩
 ·rename_i hT;simp only [hT] at h;exact h
 ·rename_i hT;simp only [hT] at h;exact h
theorem all_later {D:List Fact} (hs:∀ f ∈ D,Stable f) {w w' : World} (h:All D w) (hb:∀ f ∈ D,∀ k,f.S k→w'.heap[k]?=w.heap[k]?):All D w' :=
 All_iff.2 fun f hf=>hs f hf w w' (hb f hf) (All_iff.1 h f hf)
theorem Hold.later {s:St0} (hg:Good w0 N s) {w w' : World} (h:Hold w0 s w) (hb:Below w.heap.size w w'):Hold w0 s w' :=
 ⟨h.below.trans (hb.mono h.below.size),fun id b hf=>(h.blk id b hf).later (fun _ hl=>hb.block _ hl),all_later hg.stable h.all (fun f hf k hk=>hb.block k (h.young f hf k hk).2),
  fun f hf k hk=>⟨(h.young f hf k hk).1,Nat.lt_of_lt_of_le (h.young f hf k hk).2 hb.size⟩⟩
theorem beq_no {d t:Nat} (h:d≠t):Nat.beq d t=false:=by
 cases e:Nat.beq d t
 ·rfl
 ·exact absurd (Nat.eq_of_beq_eq_true e) h
theorem ble_iff {d t:Nat} : Nat.ble d t=true ↔ d≤t:=⟨Nat.le_of_ble_eq_true,Nat.ble_eq_true_of_le⟩
theorem blt_iff {d t:Nat} : Nat.blt d t=true ↔ d < t:=ble_iff (d:=d+1)
theorem blt_no {d t:Nat} (h:¬ d < t):Nat.blt d t=false:=by
 cases e:Nat.blt d t
 ·rfl
 ·exact absurd (blt_iff.1 e) h
theorem findT_cons (d:Nat) (g:Option (Nat × Nat)) (l:List (Nat × Option (Nat × Nat))) (t:Nat):findT ((d,g) :: l) t=if d=t then g else findT l t:=by
 simp only [findT]
 by_cases h:d=t
 ·subst h;simp
 ·simp [h,beq_no h]
theorem findB_cons (d:Nat) (g:Blk) (l:List (Nat × Blk)) (t:Nat):findB ((d,g) :: l) t=if d=t then some g else findB l t:=by
 simp only [findB]
 by_cases h:d=t
 ·subst h;simp
 ·simp [h,beq_no h]
theorem findB_setB:∀ (l:List (Nat × Blk)) (id t:Nat) (cs:Array Value),findB (setB l id cs) t=if id=t then (findB l t).map (fun b=>{ b with cells:=cs }) else findB l t
 | [],id,t,cs=>by simp [setB,findB]
 |(a,v) :: l,id,t,cs=>by
  simp only [setB]
  by_cases h:a=id
  ·subst h
   simp only [Nat.beq_refl,cond_true,findB_cons]
   by_cases h2:a=t<;>simp [h2]
  ·rw [beq_no h]
   simp only [cond_false,findB_cons,findB_setB l id t cs]
   by_cases h2:a=t
   ·subst h2;simp [Ne.symm h]
   ·simp [h2]
theorem findB_mem:∀ {bl:List (Nat × Blk)} {id:Nat} {b:Blk},findB bl id=some b→(id,b) ∈ bl
 | [],id,b,h=>by simp [findB] at h
 |(a,c) :: bl,id,b,h=>by
  rw [findB_cons] at h
  split at h
  ·rename_i e;subst e;obtain rfl:=Option.some.inj h;exact List.mem_cons_self
  ·exact List.mem_cons_of_mem _ (findB_mem h)
theorem findB_any:∀ {bl:List (Nat × Blk)} {id:Nat},(bl.any fun y=>Nat.beq y.1 id)=true→∃ b,findB bl id=some b
 | [],id,h=>by simp at h
 |(a,c) :: bl,id,h=>by
  rw [findB_cons]
  by_cases e:a=id
  ·exact ⟨c,by rw [if_pos e]⟩
  ·rw [List.any_cons,beq_no e,Bool.false_or] at h
   rw [if_neg e]
   exact findB_any h
theorem findB_of:∀ {bl:List (Nat × Blk)} {x:Nat × Blk},x ∈ bl→∃ b,findB bl x.1=some b:=fun {bl} {x} h =>
 findB_any (List.any_eq_true.2 ⟨x,h,by simp⟩)
theorem findB_iff:∀ {bl:List (Nat × Blk)} {id:Nat} {b:Blk},(bl.Pairwise fun x y=>x.1≠y.1)→(findB bl id=some b ↔ (id,b) ∈ bl)
 | [],id,b,_=>by simp [findB]
 |(a,c) :: bl,id,b,h=>by
  rw [List.pairwise_cons] at h
  rw [findB_cons]
  by_cases e:a=id
  ·subst e
   rw [if_pos rfl]
   constructor
   ·intro hh;obtain rfl:=Option.some.inj hh;exact List.mem_cons_self
   ·intro hh
    rcases List.mem_cons.1 hh with hh | hh
    ·injection hh with _ hh;rw [hh]
    ·exact absurd rfl (h.1 (a,b) hh)
  ·rw [if_neg e,findB_iff h.2]
   constructor
   ·exact List.mem_cons_of_mem _
   ·intro hh
    rcases List.mem_cons.1 hh with hh | hh
    ·injection hh with hh _;exact absurd hh.symm e
    ·exact hh
theorem lowB_iff {bl:List (Nat × Blk)} {id:Nat} {b:Blk} (h:bl.Pairwise fun x y=>x.1≠y.1):findB (lowB bl) id=some b ↔ findB bl id=some b∧b.own ≠ .dyn:=by
 have h2:(lowB bl).Pairwise fun x y=>x.1≠y.1:=h.sublist List.filter_sublist
 rw [findB_iff h2,findB_iff h]
 unfold lowB
 rw [List.mem_filter]
 constructor
 ·rintro ⟨h3,h4⟩
  refine ⟨h3,fun e=>?_⟩
  simp [e] at h4
 ·rintro ⟨h3,h4⟩
  refine ⟨h3,?_⟩
  cases hb:b.own<;>first | simp [hb];done | exact absurd hb h4
theorem setB_ids:∀ (l:List (Nat × Blk)) (id:Nat) (cs:Array Value),(setB l id cs).map (·.1)=l.map (·.1)
 | [],_,_=>rfl
 |(a,v) :: l,id,cs=>by
  simp only [setB]
  cases Nat.beq a id<;>simp [setB_ids l id cs]
theorem ids_map {l:List (Nat × Blk)} : (l.Pairwise fun x y=>x.1≠y.1) ↔ (l.map (·.1)).Pairwise (· ≠ ·):=by rw [List.pairwise_map]
theorem put_getD (a:Act) (d:Nat) (v:Value) (t:Nat):(a.put (some d) v).tmps.getD t undef=if d=t∧d < a.tmps.size then v else a.tmps.getD t undef:=by
 simp only [Act.put,Array.getD_eq_getD_getElem?,Array.getElem?_setIfInBounds]
 by_cases h:d=t
 ·subst h
  by_cases h2:d < a.tmps.size
  ·simp [h2]
  ·simp [h2]
 ·simp [h]
theorem put_good {s:St0} (h:Good w0 N s) (dst:Option Tmp) {v:Value} {g:Option (Nat × Nat)} (hv:∀ id off,g=some (id,off)→∃ b,findB s.blks id=some b∧v = .pointer (some ⟨b.g,b.o+off,none⟩)):Good w0 N (s.put dst v g):=by
 cases dst with
 |none=>exact ⟨h.size,h.defers,h.apart,h.fresh,h.tag,h.stable,h.apartB,h.apartF,h.ids⟩
 |some d =>
  refine ⟨by simpa [St0.put,Act.put] using h.size,by simpa [St0.put,Act.put] using h.defers,h.apart,h.fresh,?_,h.stable,h.apartB,h.apartF,h.ids⟩
  intro t id off ht
  simp only [St0.put] at ht ⊢
  rw [findT_cons] at ht
  rw [put_getD]
  by_cases hd:d=t
  ·rw [if_pos hd] at ht
   by_cases hl:d < s.act.tmps.size
   ·rw [blt_iff.2 hl] at ht
    simp only [cond_true] at ht
    rw [if_pos ⟨hd,hl⟩]
    exact hv id off ht
   ·rw [blt_no hl] at ht
    simp at ht
  ·rw [if_neg hd] at ht
   rw [if_neg (fun hh=>hd hh.1)]
   exact h.tag t id off ht
theorem put_hold {s:St0} {w:World} (h:Hold w0 s w) (dst:Option Tmp) (v:Value) (g:Option (Nat × Nat)):Hold w0 (s.put dst v g) w:=⟨h.below,h.blk,h.all,h.young⟩
theorem more_good {s:St0} (h:Good w0 N s) (b:Blk) (ha:∀ id b',findB s.blks id=some b'→b'.isOwn→b.isOwn→b'.g≠b.g) (hf:∀ f ∈ s.dyn,b.isOwn→¬ f.S b.g):Good w0 N { s with blks:=(s.nxt,b) :: s.blks,nxt:=s.nxt+1 }:=by
 refine ⟨h.size,h.defers,?_,?_,?_,h.stable,?_,h.apartF,List.pairwise_cons.2 ⟨fun x hx=>?_,h.ids⟩⟩
 ·intro id c id' c' h1 h2 o1 o2 hne
  simp only [findB_cons] at h1 h2
  by_cases e1:s.nxt=id
  ·rw [if_pos e1] at h1
   obtain rfl:=Option.some.inj h1
   rw [if_neg (by rw [e1];exact hne)] at h2
   exact Ne.symm (ha id' c' h2 o2 o1)
  ·rw [if_neg e1] at h1
   by_cases e2:s.nxt=id'
   ·rw [if_pos e2] at h2
    obtain rfl:=Option.some.inj h2
    exact ha id c h1 o1 o2
   ·rw [if_neg e2] at h2
    exact h.apart id c id' c' h1 h2 o1 o2 hne
 ·intro id c h1
  simp only [findB_cons] at h1
  by_cases e1:s.nxt=id
  ·simp only;omega
  ·rw [if_neg e1] at h1
   have:=h.fresh id c h1
   simp only;omega
 ·intro t id off ht
  obtain ⟨c,hc,hp⟩:=h.tag t id off ht
  refine ⟨c,?_,hp⟩
  simp only [findB_cons]
  rw [if_neg (by have:=h.fresh id c hc;omega)]
  exact hc
 ·intro f hm id c h1 ho
  simp only [findB_cons] at h1
  by_cases e1:s.nxt=id
  ·rw [if_pos e1] at h1
   obtain rfl:=Option.some.inj h1
   exact hf f hm ho
  ·rw [if_neg e1] at h1
   exact h.apartB f hm id c h1 ho
 ·obtain ⟨c,hc⟩:=findB_of hx
  have:=h.fresh _ c hc
  simp only;omega
theorem more_find {s:St0} (b:Blk):findB ((s.nxt,b) :: s.blks) s.nxt=some b:=by rw [findB_cons,if_pos rfl]
theorem run_loadVar_one {w:World} {a:Addr} {T:TypeId} {d:TypeDesc} {v:Value} (hu:P.underlying T=some d) (hd:d.isRow=false) (hc:w.cell? a=some v):(loadVar T a).run P w = .ok v w:=by
 have hagg:(isAgg T).run P w = .ok false w:=by
  unfold isAgg
  rw [Sem.run_bind,run_underlying hu w]
  cases d<;>simp_all
 simp [loadVar,Sem.run_bind,hagg,load,Sem.run,hc]
theorem loadB_run {w:World} {b:Blk} {T:TypeId} {off:Nat} {v:Value} (h:loadB P b T off=some v) (hc:∀ (i:Nat) (u:Value),b.cells[i]?=some u→w.cell? ⟨b.g,b.o+i,none⟩=some u):(loadVar T ⟨b.g,b.o+off,none⟩).run P w = .ok v w:=by
 unfold loadB at h
 split at h
 ·rename_i d n hu hi
  cases hd:d.isRow
  ·rw [hd] at h
   simp only [cond_false] at h
   exact run_loadVar_one hu hd (hc off v h)
  ·rw [hd] at h
   simp only [cond_true] at h
   cases hle:Nat.ble (off+n) b.cells.size
   ·rw [hle] at h;simp at h
   ·rw [hle] at h
    simp only [cond_true,Option.some.injEq] at h
    subst h
    have hl:=ble_iff.1 hle
    refine run_loadVar_mid w b.g (b.o+off) T _ d (fun j u hj=>?_) hu hd (by rw [hi];simp;omega)
    rw [List.getElem?_take] at hj
    split at hj
    ·rw [List.getElem?_drop] at hj
     have:=hc (off+j) u (by simpa using hj)
     rw [← this];congr 2;omega
    ·cases hj
 ·cases h
theorem tag_val {s:St0} (hg:Good w0 N s) {x:Operand} {id off:Nat} (h:s.tag x=some (id,off)):∃ b,findB s.blks id=some b∧s.act.eval x = .pointer (some ⟨b.g,b.o+off,none⟩):=by
 unfold St0.tag at h
 split at h
 ·rename_i t
  obtain ⟨b,hb,hv⟩:=hg.tag t id off h
  exact ⟨b,hb,hv⟩
 ·cases h
theorem run_fieldAt {w:World} {T:TypeId} {g o f k:Nat} (h:fieldOff P T f=some k):(Instr.fieldAt T (.pointer (some ⟨g,o,none⟩)) f).run P w = .ok (.pointer (some ⟨g,o+k,none⟩)) w:=by
 unfold fieldOff at h
 split at h
 ·rename_i fs hu
  split at h
  ·rename_i fd hf
   split at h
   ·rename_i n hi
    simp only [Option.some.injEq] at h
    subst h
    cases hq:P.info? fd.type with
    |none=>simp [hq] at hi
    |some i =>
     have hs:i.size=n+1:=by simpa [hq] using hi
     have hp:(fieldPlace ⟨g,o,none⟩ fd).run P w = .ok ⟨g,o+fd.offset,none⟩ w:=by
      unfold fieldPlace
      simp [Sem.run_bind,sizeOf,typeInfo,hq,hs,Addr.add_mid]
     unfold Instr.fieldAt
     simp [Sem.run_bind,run_underlying hu w,hf,Instr.sureAddr,hp]
   ·cases h
  ·cases h
 ·cases h
theorem val_run {s:St0} (hg:Good w0 N s) {o:Oper} {v:Value} {g:Option (Nat × Nat)} (h:outOf P s o = .val v g∨outOf P s o = .ask (some v)) {w:World} (hb:∀ T x id off b,o.op = .load T x→s.tag x=some (id,off)→findB s.blks id=some b→∀ (i:Nat) (u:Value),b.cells[i]?=some u→w.cell? ⟨b.g,b.o+i,none⟩=some u) :
  (execOp s.act.eval o).run P w = .ok (.value v) w:=by
 unfold outOf at h
 split at h
 ·rename_i x hop
  split at h
  ·rename_i g' ht
   simp only [OutV.val.injEq,reduceCtorEq,or_false] at h
   obtain ⟨rfl,_⟩:=h
   simp [execOp,hop]
  ·split at h
   ·rename_i v1 hs
    have huv:v1=v:=by
     cases hB:isBool v1<;>rw [hB] at h<;>simp at h
     ·exact h.1
     ·exact h
    subst huv
    exact still_run hs w
   ·simp at h
 ·rename_i x hop
  split at h
  ·rename_i g' ht
   simp only [OutV.val.injEq,reduceCtorEq,or_false] at h
   obtain ⟨rfl,_⟩:=h
   simp [execOp,hop]
  ·split at h
   ·rename_i hs;simp only [OutV.val.injEq,reduceCtorEq,or_false] at h;obtain ⟨rfl,_⟩:=h;exact still_run hs w
   ·simp at h
 ·rename_i x hop
  split at h
  ·rename_i g' ht
   simp only [OutV.val.injEq,reduceCtorEq,or_false] at h
   obtain ⟨rfl,_⟩:=h
   obtain ⟨b,_,hv⟩:=tag_val hg (id:=g'.1) (off:=g'.2) ht
   simp [execOp,hop,hv]
  ·split at h
   ·rename_i hs;simp only [OutV.val.injEq,reduceCtorEq,or_false] at h;obtain ⟨rfl,_⟩:=h;exact still_run hs w
   ·simp at h
 ·simp at h
 ·split at h<;>simp at h
 ·rename_i T x hop
  split at h
  ·rename_i id off ht
   split at h
   ·rename_i b hf
    split at h
    ·rename_i u hl
     have huv:u=v:=by
      cases hB:isBool u<;>rw [hB] at h<;>simp at h
      ·exact h.1
      ·exact h
     subst huv
     obtain ⟨b',hf',hv⟩:=tag_val hg ht
     rw [hf] at hf'
     obtain rfl:=Option.some.inj hf'
     have:=loadB_run hl (hb T x id off b hop ht hf)
     simp [execOp,hop,Instr.loadAt,hv,Instr.sureAddr,Sem.run_bind,this]
    ·simp at h
   ·simp at h
  ·simp at h
 ·split at h
  ·cases hc:((P.info? _).map (·.size) == some (s.act.eval _).cells.size) && (s.act.eval _).cells.all (·.oneCell')<;>rw [hc] at h<;>simp at h
  ·simp at h
 ·rename_i T x f hop
  split at h
  ·rename_i id off ht
   split at h
   ·rename_i b k hf hk
    simp only [OutV.val.injEq,reduceCtorEq,or_false] at h
    obtain ⟨rfl,_⟩:=h
    obtain ⟨b',hf',hv⟩:=tag_val hg ht
    rw [hf] at hf'
    obtain rfl:=Option.some.inj hf'
    have:=run_fieldAt (w:=w) (g:=b.g) (o:=b.o+off) hk
    rw [Nat.add_assoc] at this
    simp [execOp,hop,hv,Sem.run_bind,this]
   ·simp at h
  ·split at h
   ·rename_i hs;simp only [OutV.val.injEq,reduceCtorEq,or_false] at h;obtain ⟨rfl,_⟩:=h;exact still_run hs w
   ·simp at h
 ·cases ha:asking o.op<;>rw [ha] at h<;>simp only [cond_true,cond_false] at h
  ·cases hq:memNow o.op<;>rw [hq] at h<;>simp only [cond_true,cond_false] at h
   rotate_left
   ·simp at h
   split at h
   ·rename_i v1 hs
    have huv:v1=v:=by
     cases hb:boolish o.op && isBool v1<;>rw [hb] at h<;>simp at h
     ·exact h.1
     ·exact h
    subst huv
    exact still_run hs w
   ·simp at h
   ·cases hm:memish o.op<;>rw [hm] at h<;>simp at h
  ·simp only [reduceCtorEq,OutV.ask.injEq,false_or] at h
   unfold stillV at h
   split at h
   ·rename_i v1 hs
    obtain rfl:=Option.some.inj h
    exact still_run hs w
   ·cases h
theorem val_tag {s:St0} (hg:Good w0 N s) {o:Oper} {v:Value} {g:Option (Nat × Nat)} (h:outOf P s o = .val v g):∀ id off,g=some (id,off)→∃ b,findB s.blks id=some b∧v = .pointer (some ⟨b.g,b.o+off,none⟩):=by
 intro id off hgg
 subst hgg
 unfold outOf at h
 split at h
 ·split at h
  ·rename_i g' ht
   simp only [OutV.val.injEq,Option.some.injEq] at h
   obtain ⟨rfl,rfl⟩:=h
   exact tag_val hg ht
  ·split at h
   ·cases hB:isBool _<;>rw [hB] at h<;>simp at h
   ·simp at h
 ·split at h
  ·rename_i g' ht
   simp only [OutV.val.injEq,Option.some.injEq] at h
   obtain ⟨rfl,rfl⟩:=h
   exact tag_val hg ht
  ·split at h<;>simp at h
 ·split at h
  ·rename_i g' ht
   simp only [OutV.val.injEq,Option.some.injEq] at h
   obtain ⟨rfl,rfl⟩:=h
   exact tag_val hg ht
  ·split at h<;>simp at h
 ·cases h
 ·split at h<;>cases h
 ·split at h
  ·split at h
   ·split at h
    ·cases hB:isBool _<;>rw [hB] at h<;>cases h
    ·cases h
   ·cases h
  ·cases h
 ·split at h
  ·cases hc:((P.info? _).map (·.size) == some (s.act.eval _).cells.size) && (s.act.eval _).cells.all (·.oneCell')<;>rw [hc] at h<;>cases h
  ·cases h
 ·split at h
  ·rename_i id' off' ht
   split at h
   ·rename_i b k hf hk
    simp only [OutV.val.injEq,Option.some.injEq,Prod.mk.injEq] at h
    obtain ⟨rfl,rfl,rfl⟩:=h
    exact ⟨b,hf,rfl⟩
   ·cases h
  ·split at h<;>cases h
 ·cases ha:asking o.op<;>rw [ha] at h<;>simp only [cond_true,cond_false] at h
  ·cases hq:memNow o.op<;>rw [hq] at h<;>simp only [cond_true,cond_false] at h
   rotate_left
   ·cases h
   split at h
   ·rename_i v1 hs
    cases hb:boolish o.op && isBool v1<;>rw [hb] at h<;>cases h
   ·cases h
   ·cases hm:memish o.op<;>rw [hm] at h<;>cases h
  ·cases h
theorem ent_run {s:St0} {o:Oper} {f:FuncId} {args:Array Value} (h:outOf P s o = .ent f args) (w:World):(execOp s.act.eval o).run P w = .ok (.enter f args) w:=by
 unfold outOf at h
 split at h
 ·split at h
  ·cases h
  ·split at h
   ·cases hB:isBool _<;>rw [hB] at h<;>cases h
   ·cases h
 ·split at h
  ·cases h
  ·split at h<;>cases h
 ·split at h
  ·cases h
  ·split at h<;>cases h
 ·cases h
 ·split at h<;>cases h
 ·split at h
  ·split at h
   ·split at h
    ·cases hB:isBool _<;>rw [hB] at h<;>cases h
    ·cases h
   ·cases h
  ·cases h
 ·split at h
  ·cases hc:((P.info? _).map (·.size) == some (s.act.eval _).cells.size) && (s.act.eval _).cells.all (·.oneCell')<;>rw [hc] at h<;>cases h
  ·cases h
 ·split at h
  ·split at h<;>cases h
  ·split at h<;>cases h
 ·cases ha:asking o.op<;>rw [ha] at h<;>simp only [cond_true,cond_false] at h
  ·cases hq:memNow o.op<;>rw [hq] at h<;>simp only [cond_true,cond_false] at h
   rotate_left
   ·cases h
   split at h
   ·rename_i v1 hs
    cases hb:boolish o.op && isBool v1<;>rw [hb] at h<;>cases h
   ·rename_i hs
    simp only [OutV.ent.injEq] at h
    obtain ⟨rfl,rfl⟩:=h
    exact still_run hs w
   ·cases hm:memish o.op<;>rw [hm] at h<;>cases h
  ·cases h
theorem new_run {s:St0} {o:Oper} {T:TypeId} {cells:Array Value} (h:outOf P s o = .new T cells) (w:World):(execOp s.act.eval o).run P w = .ok (.value (.pointer (some ⟨w.heap.size,0,none⟩))) (w.alloc (.cells cells T)):=by
 unfold outOf at h
 split at h
 ·split at h
  ·cases h
  ·split at h
   ·cases hB:isBool _<;>rw [hB] at h<;>cases h
   ·cases h
 ·split at h
  ·cases h
  ·split at h<;>cases h
 ·split at h
  ·cases h
  ·split at h<;>cases h
 ·rename_i T' x hop
  simp only [OutV.new.injEq] at h
  obtain ⟨rfl,rfl⟩:=h
  simp [execOp,hop,Instr.box,newVar,newRow,newObj,Sem.run,Sem.run_bind]
 ·rename_i T' hop
  split at h
  ·rename_i z hz
   simp only [OutV.new.injEq] at h
   obtain ⟨rfl,rfl⟩:=h
   have:=still_run hz w
   simp [execOp,hop,Instr.alloc,this,newVar,newRow,newObj,Sem.run,Sem.run_bind]
  ·cases h
 ·split at h
  ·split at h
   ·split at h
    ·cases hB:isBool _<;>rw [hB] at h<;>cases h
    ·cases h
   ·cases h
  ·cases h
 ·split at h
  ·cases hc:((P.info? _).map (·.size) == some (s.act.eval _).cells.size) && (s.act.eval _).cells.all (·.oneCell')<;>rw [hc] at h<;>cases h
  ·cases h
 ·split at h
  ·split at h<;>cases h
  ·split at h<;>cases h
 ·cases ha:asking o.op<;>rw [ha] at h<;>simp only [cond_true,cond_false] at h
  ·cases hq:memNow o.op<;>rw [hq] at h<;>simp only [cond_true,cond_false] at h
   rotate_left
   ·cases h
   split at h
   ·rename_i v1 hs
    cases hb:boolish o.op && isBool v1<;>rw [hb] at h<;>cases h
   ·cases h
   ·cases hm:memish o.op<;>rw [hm] at h<;>cases h
  ·cases h
theorem run_storeVar_gen {w:World} {b off:Nat} {ty:TypeId} {v:Value} (ht:w.there b off v.cells.size) (hi:(P.info? ty).map (·.size)=some v.cells.size) (h1:v.cells.all (·.oneCell')=true) :
  (storeVar ty ⟨b,off,none⟩ v).run P w = .ok () (w.setCells b off v.cells.toList):=by
 have:=run_storeCells_cells (P:=P) b off v.cells.toList 0 w (fun j hj=>by simpa using (ht j (by simpa using hj)).1) (fun j hj=>by simpa using (ht j (by simpa using hj)).2)
  (fun v' hv=>(Array.all_eq_true_iff_forall_mem.1 h1) v' (by simpa using hv))
 cases hq:P.info? ty with
 |none=>simp [hq] at hi
 |some i =>
  have hs:v.cells.size=i.size:=by simp [hq] at hi;omega
  simp only [Nat.add_zero] at this
  simp [storeVar,sizeOf,typeInfo,hq,hs,this]
theorem sto_run {s:St0} (hg:Good w0 N s) {o:Oper} {id off:Nat} {v:Value} (h:outOf P s o = .sto id off v) {b:Blk} {T:TypeId} (hf:findB s.blks id=some b) (hT:b.own = .own T) {D:List Fact} {w:World} (hb:BOk w0 D w b) (hl:off+v.cells.size≤b.cells.size) :
  (execOp s.act.eval o).run P w = .ok .skip (w.setCells b.g off v.cells.toList):=by
 unfold outOf at h
 split at h
 ·split at h
  ·cases h
  ·split at h
   ·cases hB:isBool _<;>rw [hB] at h<;>cases h
   ·cases h
 ·split at h
  ·cases h
  ·split at h<;>cases h
 ·split at h
  ·cases h
  ·split at h<;>cases h
 ·cases h
 ·split at h<;>cases h
 ·split at h
  ·split at h
   ·split at h
    ·cases hB:isBool _<;>rw [hB] at h<;>cases h
    ·cases h
   ·cases h
  ·cases h
 ·rename_i ty x y hop
  split at h
  ·rename_i id' off' ht
   cases hc:((P.info? ty).map (·.size) == some (s.act.eval y).cells.size) && (s.act.eval y).cells.all (·.oneCell')
   ·rw [hc] at h;cases h
   ·rw [hc] at h
    simp only [cond_true,OutV.sto.injEq] at h
    obtain ⟨rfl,rfl,rfl⟩:=h
    rw [Bool.and_eq_true,beq_iff_eq] at hc
    obtain ⟨b',hf',hv⟩:=tag_val hg ht
    rw [hf] at hf'
    obtain rfl:=Option.some.inj hf'
    unfold BOk at hb
    simp only [hT] at hb
    have hth:w.there b.g off' (s.act.eval y).cells.size:=fun j hj=>by
     obtain ⟨u,hu⟩:∃ u,b.cells[off'+j]?=some u:=⟨b.cells[off'+j]'(by omega),Array.getElem?_eq_getElem (by omega)⟩
     have:=block_cell hb.2.2 (off'+j) u hu
     exact ⟨by rw [this.1];rfl,this.2⟩
    have:=run_storeVar_gen (P:=P) hth hc.1 hc.2
    rw [hb.1,Nat.zero_add] at hv
    simp [execOp,hop,Instr.storeAt,hv,Instr.sureAddr,Sem.run_bind,this]
  ·cases h
 ·split at h
  ·split at h<;>cases h
  ·split at h<;>cases h
 ·cases ha:asking o.op<;>rw [ha] at h<;>simp only [cond_true,cond_false] at h
  ·cases hq:memNow o.op<;>rw [hq] at h<;>simp only [cond_true,cond_false] at h
   rotate_left
   ·cases h
   split at h
   ·rename_i v1 hs
    cases hb:boolish o.op && isBool v1<;>rw [hb] at h<;>cases h
   ·cases h
   ·cases hm:memish o.op<;>rw [hm] at h<;>cases h
  ·cases h
structure Took (P:Program) (w0:World) (N:Nat) (D:List Fact) (s:St0) (o:Oper) (ok:World→Prop) (r:Value) (s' : St0):Prop where
 run:∀ w,Below w0.heap.size w0 w→All D w→ok w→(execOp s.act.eval o).run P w = .ok (.value r) w
 act:s'.act=s.act.put o.dst r
 good:Good w0 N s'
 hold:∀ w,Hold w0 s w→Hold w0 s' w
 nxt:s.nxt≤s'.nxt
 dyn:s'.dyn=s.dyn
 same:∀ id,id < s.nxt→findB s'.blks id=findB s.blks id
 ext:∀ id b,findB s'.blks id=some b→b.own = .dyn→findB s.blks id=some b∨Reads0 w0 D b.g b.o b.cells
theorem took_put {D:List Fact} {s:St0} (hg:Good w0 N s) {o:Oper} {ok:World→Prop} {r:Value} {g:Option (Nat × Nat)} (hr:∀ w,Below w0.heap.size w0 w→All D w→ok w→(execOp s.act.eval o).run P w = .ok (.value r) w) (ht:∀ id off,g=some (id,off)→∃ b,findB s.blks id=some b∧r = .pointer (some ⟨b.g,b.o+off,none⟩)):Took P w0 N D s o ok r (s.put o.dst r g) :=
 ⟨hr,rfl,put_good hg _ ht,fun w h=>put_hold h _ _ _,Nat.le_refl _,rfl,fun _ _=>rfl,fun _ _ h _=>.inl h⟩
theorem more_hold {s:St0} {w:World} (h:Hold w0 s w) {b:Blk} (hb:BOk w0 s.dyn w b):Hold w0 { s with blks:=(s.nxt,b) :: s.blks,nxt:=s.nxt+1 } w :=
 ⟨h.below,fun id c hc=>by
  simp only [findB_cons] at hc
  split at hc
  ·obtain rfl:=Option.some.inj hc
   exact hb
  ·exact h.blk id c hc,h.all,h.young⟩
theorem yields_run {D:List Fact} {s:St0} {o:Oper} {r:Value} (h:yieldsV P w0 D s o r) {w:World} (hw:Below w0.heap.size w0 w) (ha:All D w):(execOp s.act.eval o).run P w = .ok (.value r) w:=by
 unfold yieldsV at h
 split at h
 ·rename_i m hm
  have:=h w hw ha
  unfold semOf at hm
  have e:execOp s.act.eval o=(m >>= fun v=>pure (.value v)):=by
   split at hm<;>first | (rename_i hop;obtain rfl:=Option.some.inj hm;unfold execOp;simp only [hop];done) | (cases hm;done)
  rw [e,Sem.run_bind,this]
  rfl
 ·cases h
theorem step_run {D:List Fact} {s:St0} {o:Oper} {X:Nat→Prop} {α:Type} {r:α→Value} {fs:α→List Fact} (h:stepV P w0 D s o X α r fs) {w:World} (hw:Below w0.heap.size w0 w) (ha:All D w) :
  ∃ x w',((execOp s.act.eval o).run P w = .ok (.value (r x)) w'∨(execOp s.act.eval o).run P w = .ok .skip w'∧r x=undef)∧Frame0 X w w'∧News X w.heap.size (fs x) w':=by
 unfold stepV at h
 split at h
 ·rename_i T n parts hop
  obtain ⟨x,w',h1,h2,h3⟩:=h w hw ha
  exact ⟨x,w',.inl (by simp only [execOp,hop,Sem.run_bind];rw [h1];rfl),h2,h3⟩
 ·rename_i T l c hop
  obtain ⟨x,w',h1,h2,h3⟩:=h w hw ha
  exact ⟨x,w',.inl (by simp only [execOp,hop,Sem.run_bind];rw [h1];rfl),h2,h3⟩
 ·rename_i T a y hop
  obtain ⟨x,w',h1,h4,h2,h3⟩:=h w hw ha
  exact ⟨x,w',.inr ⟨by simp only [execOp,hop,Sem.run_bind];rw [h1];rfl,h4⟩,h2,h3⟩
 ·rename_i args ts hop
  obtain ⟨x,w',h1,h2,h3⟩:=h w hw ha
  exact ⟨x,w',.inl (by simp only [execOp,hop,resolve,invoke,builtin,Sem.run_bind,Sem.run_pure,Result.andThen_ok];rw [h1];rfl),h2,h3⟩
 ·rename_i args ts hop
  obtain ⟨x,w',h1,h2,h3⟩:=h w hw ha
  exact ⟨x,w',.inl (by simp only [execOp,hop,resolve,invoke,builtin,Sem.run_bind,Sem.run_pure,Result.andThen_ok];rw [h1];rfl),h2,h3⟩
 ·rename_i args ts hop
  obtain ⟨x,w',h1,h2,h3⟩:=h w hw ha
  exact ⟨x,w',.inl (by simp only [execOp,hop,resolve,invoke,builtin,Sem.run_bind,Sem.run_pure,Result.andThen_ok];rw [h1];rfl),h2,h3⟩
 ·cases h
theorem took_more {D:List Fact} {s:St0} (hg:Good w0 N s) (hD:Imp w0 s.dyn D) {o:Oper} {ok:World→Prop} {g off:Nat} {cells:Array Value} {k:Kind} (hk:k = .low∧Reads0 w0 [] g off cells∨k = .dyn∧Reads0 w0 D g off cells) (hr:yieldsV P w0 D s o (.pointer (some ⟨g,off,none⟩))) :
  Took P w0 N D s o ok (.pointer (some ⟨g,off,none⟩)) ({ s with blks:=(s.nxt,⟨g,off,cells,k⟩) :: s.blks,nxt:=s.nxt+1 }.put o.dst (.pointer (some ⟨g,off,none⟩)) (some (s.nxt,0))):=by
 have hno:¬ (⟨g,off,cells,k⟩:Blk).isOwn:=by rintro ⟨T,hT⟩;simp only at hT;rcases hk with ⟨rfl,_⟩ | ⟨rfl,_⟩<;>cases hT
 have hg':=more_good hg ⟨g,off,cells,k⟩ (fun id b' _ _ hn=>absurd hn hno) (fun _ _ hn=>absurd hn hno)
 refine ⟨fun w hw ha _=>yields_run hr hw ha,rfl,put_good hg' _ ?_,fun w hh=>put_hold (more_hold hh ?_) _ _ _,Nat.le_succ _,rfl,?_,?_⟩
 ·intro id off' he
  simp only [Option.some.injEq,Prod.mk.injEq] at he
  obtain ⟨rfl,rfl⟩:=he
  exact ⟨_,more_find _,rfl⟩
 ·unfold BOk
  rcases hk with ⟨rfl,h⟩ | ⟨rfl,h⟩
  ·exact h
  ·exact h.mono hD
 ·intro id hid
  show findB ((s.nxt,_) :: s.blks) id=_
  rw [findB_cons,if_neg (by omega)]
 ·intro id b hb ho
  have hb:findB ((s.nxt,(⟨g,off,cells,k⟩:Blk)) :: s.blks) id=some b:=hb
  rw [findB_cons] at hb
  split at hb
  ·obtain rfl:=Option.some.inj hb
   rcases hk with ⟨rfl,h⟩ | ⟨rfl,h⟩
   ·cases ho
   ·exact .inr h
  ·exact .inl hb
theorem ask_cases {D:List Fact} {s:St0} (hg:Good w0 N s) (hD:Imp w0 s.dyn D) {o:Oper} {v:Option Value} {t:Tree} {K:St0→Tree→Prop} {ok:World→Prop} (hr:∀ u,v=some u→∀ w,Below w0.heap.size w0 w→All D w→ok w→(execOp s.act.eval o).run P w = .ok (.value u) w) (h:askV P w0 D s o v t K):∃ r s' t',Took P w0 N D s o ok r s'∧K s' t':=by
 have np:∀ {r:Value},∀ id off,(none:Option (Nat × Nat))=some (id,off)→∃ b,findB s.blks id=some b∧r = .pointer (some ⟨b.g,b.o+off,none⟩):=fun id off h=>by cases h
 unfold askV at h
 split at h
 ·exact ⟨_,_,_,took_put hg (hr _ rfl) np,h⟩
 ·rename_i tt ff b
  cases b
  ·exact ⟨_,_,_,took_put hg (hr _ rfl) np,h.2 rfl⟩
  ·exact ⟨_,_,_,took_put hg (hr _ rfl) np,h.1 rfl⟩
 ·obtain ⟨rfl,h⟩:=h
  exact ⟨_,_,_,took_put hg (hr _ rfl) np,h⟩
 ·obtain ⟨rfl,h⟩:=h
  exact ⟨_,_,_,took_put hg (hr _ rfl) np,h⟩
 ·exact ⟨_,_,_,took_put hg (fun w hw ha _=>yields_run h.1 hw ha) np,h.2⟩
 ·rename_i tt ff b
  cases tt
  ·exact ⟨_,_,_,took_put hg (fun w hw ha _=>yields_run h.1 hw ha) np,h.2.2 rfl⟩
  ·exact ⟨_,_,_,took_put hg (fun w hw ha _=>yields_run h.1 hw ha) np,h.2.1 rfl⟩
 ·exact ⟨_,_,_,took_more hg hD (.inl ⟨rfl,h.2.1⟩) h.1,h.2.2⟩
 ·exact ⟨_,_,_,took_more hg hD (.inr ⟨rfl,h.2.1⟩) h.1,h.2.2⟩
 ·cases h
def Cells0 (s:St0) (n1:Nat) (mx:List Nat) (w:World):Prop := ∀ id b,findB s.blks id=some b→oldB s n1 mx id=true→∀ (i:Nat) (u:Value),b.cells[i]?=some u→w.cell? ⟨b.g,b.o+i,none⟩=some u
theorem load_out {s:St0} {o:Oper} {T:TypeId} {x:Operand} (hop:o.op = .load T x) {p:Nat × Nat} (ht:s.tag x=some p):(∃ v,outOf P s o = .val v none∨outOf P s o = .ask (some v))∨outOf P s o = .bad:=by
 obtain ⟨id,off⟩:=p
 unfold outOf
 rw [hop]
 simp only [ht]
 split
 ·split
  ·rename_i v _
   left
   cases isBool v
   ·exact ⟨v,.inl rfl⟩
   ·exact ⟨v,.inr rfl⟩
  ·exact .inr rfl
 ·exact .inr rfl
theorem early_out {s:St0} {o:Oper} {n1:Nat} {mx:List Nat} (he:early P s o n1 mx=true):(∃ v g,outOf P s o = .val v g)∨(∃ v,outOf P s o = .ask v)∨outOf P s o = .bad:=by
 unfold early at he
 split at he
 ·rename_i T x hop
  cases ht:s.tag x with
  |none=>rw [ht] at he;cases he
  |some p =>
  rcases load_out (P:=P) (s:=s) hop ht with ⟨v,h | h⟩ | h
  ·exact .inl ⟨_,_,h⟩
  ·exact .inr (.inl ⟨_,h⟩)
  ·exact .inr (.inr h)
 ·split at he
  ·rename_i h;exact .inl ⟨_,_,h⟩
  ·rename_i h;exact .inr (.inl ⟨_,h⟩)
  ·cases he
theorem take_cases {D:List Fact} {s:St0} (hg:Good w0 N s) (hD:Imp w0 s.dyn D) {o:Oper} {t:Tree} {K:St0→Tree→Prop} (h:opV P w0 D s o t K) {n1:Nat} {mx:List Nat} (he:early P s o n1 mx=true) :
  ∃ r s' t',Took P w0 N D s o (Cells0 s n1 mx) r s'∧K s' t':=by
 have hload:∀ {w:World},Cells0 s n1 mx w→∀ T x id off b,o.op = .load T x→s.tag x=some (id,off)→findB s.blks id=some b→∀ (i:Nat) (u:Value),b.cells[i]?=some u→w.cell? ⟨b.g,b.o+i,none⟩=some u:=fun {w} hok T x id off b hop ht hf i u hu=>by
  refine hok id b hf ?_ i u hu
  unfold early at he
  rw [hop] at he
  simp only [ht] at he
  exact he
 unfold opV at h
 rcases early_out he with ⟨v,g,ho⟩ | ⟨v,ho⟩ | ho
 ·rw [ho] at h
  exact ⟨v,_,_,took_put hg (fun w hw ha hok=>val_run hg (.inl ho) (hload hok)) (val_tag hg ho),h⟩
 ·rw [ho] at h
  exact ask_cases hg hD (fun u hu w hw ha hok=>val_run (g:=none) hg (.inr (by rw [ho,hu])) (hload hok)) h
 ·rw [ho] at h;cases h
theorem early_all {s:St0} (hg:Good w0 N s) {o:Oper} (h:(∃ v g,outOf P s o = .val v g)∨∃ v,outOf P s o = .ask v):early P s o s.nxt []=true:=by
 unfold early
 split
 ·rename_i T x hop
  have ho:∃ b,outOf P s o=b∧b ≠ .bad∧∀ T v,b ≠ .lod T v:=by
   rcases h with ⟨v,g,h⟩ | ⟨v,h⟩<;>exact ⟨_,h,by simp,by simp⟩
  obtain ⟨b,ho,hb,hb2⟩:=ho
  unfold outOf at ho
  rw [hop] at ho
  simp only at ho
  split at ho
  ·rename_i id off ht
   split at ho
   ·rename_i bb hf
    show oldB s s.nxt [] id=true
    unfold oldB
    rw [hf]
    simp only
    split
    ·rw [blt_iff.2 (hg.fresh id bb hf)];rfl
    ·rfl
   ·exact absurd ho.symm hb
  ·exact absurd ho.symm (hb2 _ _)
 ·rcases h with ⟨v,g,h⟩ | ⟨v,h⟩<;>rw [h]
def DelOk (P:Program) (w0:World) (D:List Fact) (s:St0) (o:Oper) (t:Tree):Prop :=
 (outOf P s o = .mem→∀ α j r fs t',t = .w α (some j) r fs t'→∀ x,Imp w0 (fs x++(delD s (some j)).dyn) D) ∧
 (∀ f args,outOf P s o = .ent f args→∀ id α r cs fs t',t = .cD id α r cs fs t'→∀ x,Imp w0 (fs x) D)
def Hits (P:Program) (s:St0) (o:Oper) (t:Tree) (id:Nat):Prop :=
 (∃ off v,outOf P s o = .sto id off v)∨((∃ f args,outOf P s o = .ent f args)∧∃ α r cs fs t',t = .cD (some id) α r cs fs t')
structure Led (P:Program) (w0:World) (N:Nat) (D:List Fact) (s:St0) (o:Oper) (t:Tree) (s' : St0) (w' : World):Prop where
 good:Good w0 N s'
 hold:Hold w0 s' w'
 nxt:s.nxt≤s'.nxt
 same:∀ id b,id < s.nxt→¬ Hits P s o t id→b.isOwn→(findB s.blks id=some b ↔ findB s'.blks id=some b)
 dyn:Imp w0 s.dyn D→DelOk P w0 D s o t→Imp w0 s'.dyn D
 ext:∀ id b,findB s'.blks id=some b→b.own = .dyn→findB s.blks id=some b∨Reads0 w0 D b.g b.o b.cells
theorem led_took {D:List Fact} {s s' : St0} {o:Oper} {t:Tree} {ok:World→Prop} {r:Value} (ht:Took P w0 N D s o ok r s') {w:World} (hh:Hold w0 s w):Led P w0 N D s o t s' w :=
 ⟨ht.good,ht.hold w hh,ht.nxt,fun id b hid _ _=>by rw [ht.same id hid],fun hi _=>by rw [ht.dyn];exact hi,ht.ext⟩
theorem facts_good {s:St0} (hg:Good w0 N s) {w:World} (hh:Hold w0 s w) {X:Nat→Prop} {w' : World} {fs:List Fact} (hX:∀ k,X k→w0.heap.size≤k∧(∀ id b,findB s.blks id=some b→b.isOwn→b.g≠k)∧∀ f ∈ s.dyn,¬ f.S k) (hn:News X w.heap.size fs w'):Good w0 N { s with dyn:=fs++s.dyn }:=by
 have hold:∀ f ∈ fs,∀ k,f.S k→(∀ id b,findB s.blks id=some b→b.isOwn→b.g≠k)∧∀ f ∈ s.dyn,¬ f.S k:=fun f hf k hk=>by
  rcases (hn.young f hf k hk).1 with h | h
  ·exact (hX k h).2
  ·exact ⟨fun id b hb ho=>by have:=(hh.blk id b hb).lt ho;omega,fun f2 hf2 hs=>by have:=(hh.young f2 hf2 k hs).2;omega⟩
 refine ⟨hg.size,hg.defers,hg.apart,hg.fresh,hg.tag,?_,?_,?_,hg.ids⟩
 ·intro f hf
  rcases List.mem_append.1 hf with hf | hf
  ·exact hn.stable f hf
  ·exact hg.stable f hf
 ·intro f hf id b hb ho hs
  rcases List.mem_append.1 hf with hf | hf
  ·exact (hold f hf _ hs).1 id b hb ho rfl
  ·exact hg.apartB f hf id b hb ho hs
 ·simp only
  rw [List.pairwise_append]
  exact ⟨hn.apart,hg.apartF,fun f hf f2 hf2 k hk hk2=>(hold f hf k hk).2 f2 hf2 hk2⟩
theorem facts_hold {s:St0} {w' : World} (hh' : Hold w0 s w') {w:World} (hw:w0.heap.size≤w.heap.size) {X:Nat→Prop} {fs:List Fact} (hX:∀ k,X k→w0.heap.size≤k) (hn:News X w.heap.size fs w'):Hold w0 { s with dyn:=fs++s.dyn } w':=by
 refine ⟨hh'.below,fun id b hb=>(hh'.blk id b hb).mono (imp_sub fun f hf=>List.mem_append_right _ hf),All_iff.2 fun f hf=>?_,fun f hf k hk=>?_⟩
 ·rcases List.mem_append.1 hf with hf | hf
  ·exact All_iff.1 hn.all f hf
  ·exact All_iff.1 hh'.all f hf
 ·rcases List.mem_append.1 hf with hf | hf
  ·have:=hn.young f hf k hk
   refine ⟨?_,this.2⟩
   rcases this.1 with h | h
   ·exact hX k h
   ·omega
  ·exact hh'.young f hf k hk
theorem del_mem {s:St0} {del:Option Nat} : ∀ f ∈ (delD s del).dyn,f ∈ s.dyn:=fun f hf=>by
 cases del with
 |none=>exact hf
 |some j=>exact (List.eraseIdx_sublist _ _).subset hf
theorem findT_keep {bl:List (Nat × Blk)} : ∀ {l:List (Nat × Option (Nat × Nat))} {t:Nat},findT (l.map fun x=>(x.1,keepT bl x.2)) t=keepT bl (findT l t)
 | [],t=>rfl
 |x :: l,t=>by
  simp only [List.map_cons]
  rw [findT_cons,findT_cons,findT_keep]
  split<;>rfl
theorem del_blk {s:St0} (hg:Good w0 N s) {del:Option Nat} {id:Nat} {b:Blk} (h:findB (delD s del).blks id=some b):findB s.blks id=some b∧(del=none∨b.own ≠ .dyn):=by
 cases del with
 |none=>exact ⟨h,.inl rfl⟩
 |some j=>have:=(lowB_iff hg.ids).1 h;exact ⟨this.1,.inr this.2⟩
theorem del_good {s:St0} (hg:Good w0 N s) (del:Option Nat):Good w0 N (delD s del):=by
 cases del with
 |none=>exact hg
 |some j =>
  refine ⟨hg.size,hg.defers,?_,?_,?_,?_,?_,?_,?_⟩
  ·intro i1 b1 i2 b2 f1 f2 o1 o2 hne
   exact hg.apart _ _ _ _ (del_blk (del:=some j) hg f1).1 (del_blk (del:=some j) hg f2).1 o1 o2 hne
  ·intro id b f1;exact hg.fresh _ _ (del_blk (del:=some j) hg f1).1
  ·intro t id off ht
   have ht:findT (s.tags.map fun x=>(x.1,keepT (lowB s.blks) x.2)) t=some (id,off):=ht
   rw [findT_keep] at ht
   unfold keepT at ht
   split at ht
   ·rename_i g hg1
    split at ht
    ·rename_i b hb
     obtain rfl:=Option.some.inj ht
     obtain ⟨c,hc,hp⟩:=hg.tag t id off hg1
     have:=((lowB_iff hg.ids).1 hb).1
     rw [hc] at this
     obtain rfl:=Option.some.inj this
     exact ⟨c,hb,hp⟩
    ·cases ht
   ·cases ht
  ·intro f hf;exact hg.stable f (del_mem (del:=some j) f hf)
  ·intro f hf id b hb ho;exact hg.apartB f (del_mem (del:=some j) f hf) id b (del_blk (del:=some j) hg hb).1 ho
  ·exact hg.apartF.sublist (List.eraseIdx_sublist _ _)
  ·exact hg.ids.sublist List.filter_sublist
theorem del_X {s:St0} (hg:Good w0 N s) {w:World} (hh:Hold w0 s w) {del:Option Nat} {k:Nat} (hX:delS s.dyn del k):w0.heap.size≤k∧(∀ id b,findB s.blks id=some b→b.isOwn→b.g≠k)∧∀ f ∈ (delD s del).dyn,¬ f.S k:=by
 cases del with
 |none=>exact hX.elim
 |some j =>
  cases hf:s.dyn[j]? with
  |some f =>
   have hX:f.S k:=by simpa only [delS,hf] using hX
   have hm:=List.mem_of_getElem? hf
   refine ⟨(hh.young f hm k hX).1,fun id b hb ho e=>hg.apartB f hm id b hb ho (by rw [e];exact hX),fun f2 hf2 hs=>?_⟩
   obtain ⟨i,hne,hi⟩:=List.mem_eraseIdx_iff_getElem?.1 hf2
   obtain ⟨hjl,ej⟩:=List.getElem?_eq_some_iff.1 hf
   obtain ⟨hil,ei⟩:=List.getElem?_eq_some_iff.1 hi
   have hp:=List.pairwise_iff_getElem.1 hg.apartF
   rcases Nat.lt_or_ge i j with hlt | hge
   ·have:=hp i j hil hjl hlt k (by rw [ei];exact hs)
    rw [ej] at this
    exact this hX
   ·have:=hp j i hjl hil (by omega) k (by rw [ej];exact hX)
    rw [ei] at this
    exact this hs
  |none=>simp only [delS,hf] at hX
theorem del_hold {s:St0} (hg:Good w0 N s) {w w' : World} (hh:Hold w0 s w) {del:Option Nat} (hf:Frame0 (delS s.dyn del) w w'):Hold w0 (delD s del) w':=by
 refine ⟨hh.below.trans ⟨hf.os,hf.tape,hf.output,hf.size,fun k hk=>hf.block k (Nat.lt_of_lt_of_le hk hh.below.size) (fun hX=>by have:=(del_X hg hh hX).1;omega)⟩,?_,?_,?_⟩
 ·intro id b hb
  obtain ⟨h1,h2⟩:=del_blk hg hb
  have h3:=(hh.blk id b h1).later (w':=w') (fun ho hl=>hf.block _ hl (fun hX=>(del_X hg hh hX).2.1 id b h1 ho rfl))
  cases del with
  |none=>exact h3
  |some j =>
   rcases h2 with h2 | h2
   ·cases h2
   ·unfold BOk at h3 ⊢
    split<;>rename_i hk<;>simp only [hk] at h3
    ·exact h3
    ·exact h3
    ·exact absurd hk h2
 ·refine all_later (fun f hf=>hg.stable f (del_mem f hf)) (All_iff.2 fun f hm=>All_iff.1 hh.all f (del_mem f hm)) (fun f hm k hk=>hf.block k (hh.young f (del_mem f hm) k hk).2 (fun hX=>(del_X hg hh hX).2.2 f hm hk))
 ·intro f hm k hk
  have:=hh.young f (del_mem f hm) k hk
  exact ⟨this.1,Nat.lt_of_lt_of_le this.2 hf.size⟩
theorem no_tag {s:St0} {r:Value} : ∀ id off,(none:Option (Nat × Nat))=some (id,off)→∃ b,findB s.blks id=some b∧r = .pointer (some ⟨b.g,b.o+off,none⟩):=fun id off h=>by cases h
theorem lod_is {s:St0} {o:Oper} {T:TypeId} {v:Value} (h:outOf P s o = .lod T v):∃ x,o.op = .load T x∧s.act.eval x=v:=by
 unfold outOf at h
 split at h
 ·split at h
  ·cases h
  ·split at h
   ·cases hB:isBool _<;>rw [hB] at h<;>cases h
   ·cases h
 ·split at h
  ·cases h
  ·split at h<;>cases h
 ·split at h
  ·cases h
  ·split at h<;>cases h
 ·cases h
 ·split at h<;>cases h
 ·rename_i T' x hop
  split at h
  ·split at h
   ·split at h
    ·cases hB:isBool _<;>rw [hB] at h<;>cases h
    ·cases h
   ·cases h
  ·simp only [OutV.lod.injEq] at h
   obtain ⟨rfl,rfl⟩:=h
   exact ⟨x,hop,rfl⟩
 ·split at h
  ·cases hc:((P.info? _).map (·.size) == some (s.act.eval _).cells.size) && (s.act.eval _).cells.all (·.oneCell')<;>rw [hc] at h<;>cases h
  ·cases h
 ·split at h
  ·split at h<;>cases h
  ·split at h<;>cases h
 ·cases ha:asking o.op<;>rw [ha] at h<;>simp only [cond_true,cond_false] at h
  ·cases hq:memNow o.op<;>rw [hq] at h<;>simp only [cond_true,cond_false] at h
   rotate_left
   ·cases h
   split at h
   ·rename_i v1 hs
    cases hb:boolish o.op && isBool v1<;>rw [hb] at h<;>cases h
   ·cases h
   ·cases hm:memish o.op<;>rw [hm] at h<;>cases h
  ·cases h
theorem drop_good {s:St0} (hg:Good w0 N s):Good w0 N (delD s (some s.dyn.length)):=del_good hg _
theorem dyn_good {s:St0} (hg:Good w0 N s) {fs:List Fact} (hs:∀ f ∈ fs,Stable f) (hb:∀ f ∈ fs,∀ id b,findB s.blks id=some b→b.isOwn→¬ f.S b.g) (ha:fs.Pairwise fun f g => ∀ k,f.S k→¬ g.S k):Good w0 N { s with dyn:=fs } :=
 ⟨hg.size,hg.defers,hg.apart,hg.fresh,hg.tag,hs,hb,ha,hg.ids⟩
theorem bok_drop {D D' : List Fact} {w:World} {b:Blk} (h:BOk w0 D w b) (hd:b.own ≠ .dyn):BOk w0 D' w b:=by
 unfold BOk at *
 split<;>rename_i hk<;>simp only [hk] at h
 ·exact h
 ·exact h
 ·exact absurd hk hd
theorem setB_good {s:St0} (hg:Good w0 N s) {id g o' : Nat} {cs:Array Value} {T:TypeId} (hf:findB s.blks id=some ⟨g,o',cs,.own T⟩) (cs' : Array Value):Good w0 N { s with blks:=setB s.blks id cs' }:=by
 have hown:(⟨g,o',cs,.own T⟩:Blk).isOwn:=⟨T,rfl⟩
 have hfind:∀ id',findB (setB s.blks id cs') id'=if id=id' then some ⟨g,o',cs',.own T⟩ else findB s.blks id':=fun id'=>by
  rw [findB_setB]
  by_cases e:id=id'
  ·subst e;rw [if_pos rfl,if_pos rfl,hf];rfl
  ·rw [if_neg e,if_neg e]
 refine ⟨hg.size,hg.defers,?_,?_,?_,hg.stable,?_,hg.apartF,?_⟩
 ·intro i1 b1 i2 b2 f1 f2 o1 o2 hne
  simp only [hfind] at f1 f2
  have k1:∃ c1,findB s.blks i1=some c1∧c1.g=b1.g∧c1.isOwn:=by
   split at f1
   ·rename_i e;subst e;obtain rfl:=Option.some.inj f1;exact ⟨_,hf,rfl,hown⟩
   ·exact ⟨b1,f1,rfl,o1⟩
  have k2:∃ c1,findB s.blks i2=some c1∧c1.g=b2.g∧c1.isOwn:=by
   split at f2
   ·rename_i e;subst e;obtain rfl:=Option.some.inj f2;exact ⟨_,hf,rfl,hown⟩
   ·exact ⟨b2,f2,rfl,o2⟩
  obtain ⟨c1,m1,e1,p1⟩:=k1
  obtain ⟨c2,m2,e2,p2⟩:=k2
  rw [← e1,← e2]
  exact hg.apart _ _ _ _ m1 m2 p1 p2 hne
 ·intro i1 b1 f1
  simp only [hfind] at f1
  split at f1
  ·rename_i e;subst e;exact hg.fresh _ _ hf
  ·exact hg.fresh _ _ f1
 ·intro tt i1 off1 ht
  obtain ⟨b1,f1,hp⟩:=hg.tag tt i1 off1 ht
  by_cases e:id=i1
  ·subst e
   rw [hf] at f1
   obtain rfl:=Option.some.inj f1
   exact ⟨⟨g,o',cs',.own T⟩,(hfind id).trans (if_pos rfl),hp⟩
  ·exact ⟨b1,by simp only [hfind];rw [if_neg e];exact f1,hp⟩
 ·intro f hm i1 b1 f1 o1
  simp only [hfind] at f1
  split at f1
  ·obtain rfl:=Option.some.inj f1;exact hg.apartB f hm id ⟨g,o',cs,.own T⟩ hf hown
  ·exact hg.apartB f hm i1 b1 f1 o1
 ·rw [ids_map];simp only;rw [setB_ids,← ids_map];exact hg.ids
theorem opV_sound {D:List Fact} {s:St0} (hg:Good w0 N s) {w:World} (hh:Hold w0 s w) (hD:Imp w0 s.dyn D) {o:Oper} {t:Tree} {K:St0→Tree→Prop} (h:opV P w0 D s o t K) {next:Act→World→Prop} {Q:Exit→Act→World→Prop}
  (hn:∀ s' t' w',Led P w0 N D s o t s' w'→K s' t'→next s'.act w'):o.wp P s.act w next Q:=by
 by_cases hv:(∃ v g,outOf P s o = .val v g)∨∃ v,outOf P s o = .ask v
 ·obtain ⟨r,s',t',ht,hk⟩:=take_cases hg hD h (early_all hg hv)
  unfold Oper.wp
  rw [ht.run w hh.below (hD w hh.below hh.all) (fun id b hf _ i u hu=>(hh.blk id b hf).cell hh.below hh.all hu),Oper.upon_value,← ht.act]
  exact hn s' t' w (led_took ht hh) hk
 unfold opV at h
 split at h
 ·rename_i v g ho;exact absurd (.inl ⟨v,g,ho⟩) hv
 ·rename_i v ho;exact absurd (.inr ⟨v,ho⟩) hv
 ·rename_i T cells ho
  unfold Oper.wp
  rw [new_run ho w,Oper.upon_value]
  have hg':=more_good hg ⟨w.heap.size,0,cells,.own T⟩ (fun id b' hf hn _=>by have:=(hh.blk id b' hf).lt hn;simp only;omega) (fun f hf _ hs=>by have:=(hh.young f hf _ hs).2;simp only at this;omega)
  have hb:=Below.alloc (Below.refl w.heap.size w) (Nat.le_refl _) (.cells cells T)
  have hh':=hh.later hg hb
  refine hn _ t _ ⟨put_good hg' o.dst (v:=.pointer (some ⟨w.heap.size,0,none⟩)) (g:=some (s.nxt,0)) ?_,put_hold (more_hold hh' ?_) _ _ _,Nat.le_succ _,?_,fun hi _=>hi,?_⟩ (h w.heap.size)
  ·intro id off he
   simp only [Option.some.injEq,Prod.mk.injEq] at he
   obtain ⟨rfl,rfl⟩:=he
   exact ⟨_,more_find _,rfl⟩
  ·exact ⟨rfl,hh.below.size,heap_alloc_new w (.cells cells T)⟩
  ·intro id b hid _ _
   show _ ↔ findB ((s.nxt,_) :: s.blks) id=_
   rw [findB_cons,if_neg (by omega)]
  ·intro id b hb ho
   have hb:findB ((s.nxt,(⟨w.heap.size,0,cells,.own T⟩:Blk)) :: s.blks) id=some b:=hb
   rw [findB_cons] at hb
   split at hb
   ·obtain rfl:=Option.some.inj hb;cases ho
   ·exact .inl hb
 ·rename_i id off v ho
  unfold stoV at h
  split at h
  ·rename_i g o' cs T hf
   cases hle:Nat.ble (off+v.cells.size) cs.size
   ·rw [hle] at h;cases h
   rw [hle] at h
   simp only [cond_true] at h
   have hl:=ble_iff.1 hle
   have hb:=hh.blk id _ hf
   have hrun:=sto_run hg ho hf rfl hb hl
   unfold Oper.wp
   rw [hrun,Oper.upon_skip]
   have hown:(⟨g,o',cs,.own T⟩:Blk).isOwn:=⟨T,rfl⟩
   have hb':=hb
   unfold BOk at hb'
   simp only at hb'
   have hlt:=hb.lt hown
   simp only at hlt
   have hrow:=setCells_row (g:=g) (T:=T) v.cells.toList off w cs.toList (by simpa using hb'.2.2) (by simpa using hl)
   have hfind:∀ id',findB (setB s.blks id (cs.toList.take off++v.cells.toList++cs.toList.drop (off+v.cells.size)).toArray) id'=if id=id' then some ⟨g,o',(cs.toList.take off++v.cells.toList++cs.toList.drop (off+v.cells.size)).toArray,.own T⟩ else findB s.blks id':=fun id'=>by
    rw [findB_setB]
    by_cases e:id=id'
    ·subst e;rw [if_pos rfl,if_pos rfl,hf];rfl
    ·rw [if_neg e,if_neg e]
   have hset:∀ k,k≠g→(w.setCells g off v.cells.toList).heap[k]?=w.heap[k]?:=fun k hk=>setCells_other hk _ _ _
   have hgood:=setB_good hg hf (cs.toList.take off++v.cells.toList++cs.toList.drop (off+v.cells.size)).toArray
   refine hn _ t _ ⟨put_good hgood o.dst (v:=undef) (g:=none) no_tag,put_hold ⟨?_,?_,?_,?_⟩ _ _ _,Nat.le_refl _,?_,fun hi _=>hi,?_⟩ h
   ·exact setCells_below hlt.1 _ _ _ hh.below
   ·intro i1 b1 f1
    simp only [hfind] at f1
    split at f1
    ·obtain rfl:=Option.some.inj f1
     refine ⟨hb'.1,hb'.2.1,?_⟩
     have:off+v.cells.toList.length=off+v.cells.size:=by simp
     rw [this] at hrow
     exact hrow
    ·rename_i e
     refine (hh.blk i1 b1 f1).later (fun ho1 hl=>hset _ (Ne.symm (hg.apart id _ i1 b1 hf f1 hown ho1 e)))
   ·exact all_later hg.stable hh.all (fun f hm k hk=>hset k (fun e=>hg.apartB f hm id _ hf hown (by simp only;rw [← e];exact hk)))
   ·intro f hm k hk
    rw [setCells_size]
    exact hh.young f hm k hk
   ·intro i1 b hid hne _
    have e:¬ id=i1:=(fun e=>hne (e ▸ .inl ⟨off,v,ho⟩))
    show _ ↔ findB (setB s.blks id _) i1=_
    rw [hfind,if_neg e]
   ·intro i1 b f1 ho1
    have f1:findB (setB s.blks id _) i1=some b:=f1
    rw [hfind] at f1
    split at f1
    ·obtain rfl:=Option.some.inj f1;cases ho1
    ·exact .inl f1
  ·cases h
 ·rename_i f args ho
  have led:∀ {r:Value} {w' : World},Below w.heap.size w w'→Led P w0 N D s o t (s.put o.dst r none) w':=fun hb =>
   ⟨put_good hg o.dst no_tag,put_hold (hh.later hg hb) _ _ _,Nat.le_refl _,fun _ _ _ _ _=>Iff.rfl,fun hi _=>hi,fun _ _ h _=>.inl h⟩
  have one:∀ r t',Gives P w0 s.dyn f args r→K (s.put o.dst r none) t'→o.wp P s.act w next Q:=fun r t' h1 h2=>by
   unfold Oper.wp
   rw [ent_run ho w,Oper.upon_enter]
   refine (h1 w hh.below hh.all).mono ?_
   rintro e w' ⟨rfl,hb⟩
   exact hn _ t' w' (led hb) h2
  unfold entV at h
  split at h
  ·exact one _ _ h.1 h.2
  ·rename_i α r fs t'
   unfold Oper.wp
   rw [ent_run ho w,Oper.upon_enter]
   refine (h.1 w hh.below hh.all).mono ?_
   rintro e w' ⟨x,rfl,hb,hnew⟩
   refine hn _ _ w' ⟨put_good (facts_good hg hh (X:=fun _=>False) (fun k hk=>hk.elim) hnew) o.dst no_tag,put_hold (facts_hold (hh.later hg hb) hh.below.size (fun k hk=>hk.elim) hnew) _ _ _,Nat.le_refl _,fun _ _ _ _ _=>Iff.rfl,fun hi _=>imp_more hi,fun _ _ h _=>.inl h⟩ (h.2 x)
  ·rename_i b tt ff
   cases b
   ·exact one _ _ h.1 (h.2.2 rfl)
   ·exact one _ _ h.1 (h.2.1 rfl)
  ·rename_i id r t'
   split at h
   ·rename_i g o' cs T hf
    unfold Oper.wp
    rw [ent_run ho w,Oper.upon_enter]
    have hb:=hh.blk id _ hf
    unfold BOk at hb
    simp only at hb
    refine (h.1 w hh.below (All_iff.2 fun f hm=>?_)).mono ?_
    ·rcases List.mem_append.1 hm with hm | hm
     ·exact All_iff.1 hh.all f hm
     ·rw [List.mem_singleton.1 hm];exact hb.2.2
    ·rintro e w' ⟨rfl,hbl⟩
     exact hn _ t' w' (led hbl) h.2
   ·cases h
  ·rename_i α r cs fs t'
   unfold Oper.wp
   rw [ent_run ho w,Oper.upon_enter]
   refine (h.1 w hh.below hh.all hg.stable hg.apartF hh.young).mono ?_
   rintro e w' ⟨x,rfl,hb,hfr,hnew⟩
   have hg1:=drop_good hg
   have hS:∀ f ∈ fs x,∀ id b,findB s.blks id=some b→b.isOwn→¬ f.S b.g:=fun f hf id b hb' ho' hs=>by
    have hl:=(hh.blk id b hb').lt ho'
    rcases (hnew.young f hf _ hs).1 with ⟨f2,hf2,hs2⟩ | hlo
    ·exact hg.apartB f2 hf2 id b hb' ho' hs2
    ·omega
   refine hn _ _ w' ⟨put_good (dyn_good hg1 hnew.stable (fun f hf id b hb' ho'=>hS f hf id b (del_blk (del:=some s.dyn.length) hg hb').1 ho') hnew.apart) o.dst no_tag,put_hold ⟨hb,fun id b hb'=>?_,hnew.all,fun f hf k hk=>?_⟩ _ _ _,Nat.le_refl _,fun id b _ _ hb'=>?_,fun _ hd=>hd.2 _ _ ho _ _ _ _ _ _ rfl x,fun id b hb' _=>.inl (del_blk (del:=some s.dyn.length) hg hb').1⟩ (h.2 x)
   ·obtain ⟨h1,h2⟩:=del_blk (del:=some s.dyn.length) hg hb'
    have h3:=(hh.blk id b h1).later (w':=w') (fun ho' hl=>hfr _ ((hh.blk id b h1).lt ho').1 hl (fun hX=>by obtain ⟨f2,hf2,hs2⟩:=hX;exact hg.apartB f2 hf2 id b h1 ho' hs2))
    exact bok_drop h3 (h2.resolve_left (by simp))
   ·refine ⟨?_,(hnew.young f hf k hk).2⟩
    rcases (hnew.young f hf k hk).1 with ⟨f2,hf2,hs2⟩ | hlo
    ·exact (hh.young f2 hf2 k hs2).1
    ·have:=hh.below.size;omega
   ·show _ ↔ findB (lowB s.blks) id=some b
    rw [lowB_iff hg.ids]
    obtain ⟨T,hT⟩:=hb'
    exact ⟨fun h=>⟨h,by rw [hT];simp⟩,fun h=>h.1⟩
  ·rename_i id α r cs fs t'
   split at h
   ·rename_i g o' c0 T hf
    have hown:(⟨g,o',c0,.own T⟩:Blk).isOwn:=⟨T,rfl⟩
    have hbk:=hh.blk id _ hf
    have hlt:=hbk.lt hown
    unfold BOk at hbk
    simp only at hbk hlt
    unfold Oper.wp
    rw [ent_run ho w,Oper.upon_enter]
    refine (h.1 w hh.below ⟨hbk.2.2,hh.all⟩ (fun f hm=>?_) (List.pairwise_cons.2 ⟨fun f hm k hk hk2=>?_,hg.apartF⟩) (fun f hm k hk=>?_)).mono ?_
    ·rcases List.mem_cons.1 hm with rfl | hm
     ·exact cellsF_stable _ _ _
     ·exact hg.stable f hm
    ·simp only [cellsF] at hk;subst hk;exact hg.apartB f hm id _ hf hown hk2
    ·rcases List.mem_cons.1 hm with rfl | hm
     ·simp only [cellsF] at hk;subst hk;exact hlt
     ·exact hh.young f hm k hk
    rintro e w' ⟨x,rfl,hb,hfr,hnew⟩
    have hno:∀ i b,findB s.blks i=some b→b.isOwn→i≠id→¬ anyS (cellsF g c0 T :: s.dyn) b.g:=fun i b hb' ho' hne hX=>by
     obtain ⟨f2,hf2,hs2⟩:=hX
     rcases List.mem_cons.1 hf2 with rfl | hf2
     ·exact hg.apart _ _ _ _ hb' hf ho' hown hne hs2
     ·exact hg.apartB f2 hf2 i b hb' ho' hs2
    have hn0:=List.pairwise_cons.1 hnew.apart
    have hS:∀ f ∈ fs x,∀ i b,findB s.blks i=some b→b.isOwn→¬ f.S b.g:=fun f hf' i b hb' ho' hs=>by
     by_cases hi:i=id
     ·subst hi
      rw [hf] at hb'
      obtain rfl:=Option.some.inj hb'
      exact hn0.1 f hf' g rfl hs
     ·have hl:=(hh.blk i b hb').lt ho'
      rcases (hnew.young f (List.mem_cons_of_mem _ hf') _ hs).1 with hX | hlo
      ·exact hno i b hb' ho' hi hX
      ·omega
    have hfind:∀ i,findB (setB (lowB s.blks) id (cs x)) i=if id=i then some ⟨g,o',cs x,.own T⟩ else findB (lowB s.blks) i:=fun i=>by
     rw [findB_setB]
     by_cases e:id=i
     ·subst e;rw [if_pos rfl,if_pos rfl,(lowB_iff hg.ids).2 ⟨hf,by simp⟩];rfl
     ·rw [if_neg e,if_neg e]
    have hg1:=setB_good (drop_good hg) (id:=id) (g:=g) (o':=o') (cs:=c0) (T:=T) ((lowB_iff hg.ids).2 ⟨hf,by simp⟩) (cs x)
    have was:∀ i b,findB (setB (lowB s.blks) id (cs x)) i=some b→b.isOwn→∃ c,findB s.blks i=some c∧c.g=b.g∧c.isOwn:=fun i b hb' ho'=>by
     rw [hfind] at hb'
     split at hb'
     ·rename_i e;subst e;obtain rfl:=Option.some.inj hb';exact ⟨_,hf,rfl,hown⟩
     ·exact ⟨b,((lowB_iff hg.ids).1 hb').1,rfl,ho'⟩
    refine hn _ _ w' ⟨put_good (dyn_good hg1 (fun f hm=>hnew.stable f (List.mem_cons_of_mem _ hm)) (fun f hm i b hb' ho'=>?_) hn0.2) o.dst no_tag,put_hold ⟨hb,fun i b hb'=>?_,hnew.all.2,fun f hm k hk=>?_⟩ _ _ _,Nat.le_refl _,fun i b _ hnh hb'=>?_,fun _ hd=>hd.2 _ _ ho _ _ _ _ _ _ rfl x,fun i b hb' hd=>?_⟩ (h.2 x)
    ·obtain ⟨c,hc,hcg,hco⟩:=was i b hb' ho'
     rw [← hcg];exact hS f hm i c hc hco
    ·have hb' : findB (setB (lowB s.blks) id (cs x)) i=some b:=hb'
     rw [hfind] at hb'
     split at hb'
     ·obtain rfl:=Option.some.inj hb'
      exact ⟨hbk.1,hbk.2.1,hnew.all.1⟩
     ·rename_i e
      obtain ⟨h1,h2⟩:=(lowB_iff hg.ids).1 hb'
      have h3:=(hh.blk i b h1).later (w':=w') (fun ho' hl=>hfr _ ((hh.blk i b h1).lt ho').1 hl (hno i b h1 ho' (Ne.symm e)))
      exact bok_drop h3 h2
    ·have hy:=hnew.young f (List.mem_cons_of_mem _ hm) k hk
     refine ⟨?_,hy.2⟩
     rcases hy.1 with ⟨f2,hf2,hs2⟩ | hlo
     ·rcases List.mem_cons.1 hf2 with rfl | hf2
      ·simp only [cellsF] at hs2;subst hs2;exact hlt.1
      ·exact (hh.young f2 hf2 k hs2).1
     ·have:=hh.below.size;omega
    ·have e:¬ id=i:=fun e=>hnh (e ▸ .inr ⟨⟨_,_,ho⟩,_,_,_,_,_,rfl⟩)
     show _ ↔ findB (setB (lowB s.blks) id (cs x)) i=some b
     rw [hfind,if_neg e,lowB_iff hg.ids]
     obtain ⟨T',hT'⟩:=hb'
     exact ⟨fun h=>⟨h,by rw [hT'];simp⟩,fun h=>h.1⟩
    ·have hb' : findB (setB (lowB s.blks) id (cs x)) i=some b:=hb'
     rw [hfind] at hb'
     split at hb'
     ·obtain rfl:=Option.some.inj hb';cases hd
     ·exact .inl ((lowB_iff hg.ids).1 hb').1
   ·cases h
  ·cases h
 ·rename_i ho
  unfold memV at h
  split at h
  ·rename_i α del r fs t'
   obtain ⟨x,w',hrun,hfr,hnew⟩:=step_run h.1 hh.below hh.all
   have hk:=h.2 x
   have hdel:Frame0 (fun _=>False) w w:=⟨rfl,rfl,rfl,Nat.le_refl _,fun _ _ _=>rfl⟩
   have hgd:=del_good hg del
   have hhd:Hold w0 (delD s del) w:=⟨hh.below,fun id b hb=>by
     obtain ⟨h1,h2⟩:=del_blk hg hb
     have h3:=hh.blk id b h1
     cases del with
     |none=>exact h3
     |some j =>
      rcases h2 with h2 | h2
      ·cases h2
      ·unfold BOk at h3 ⊢
       split<;>rename_i hk<;>simp only [hk] at h3
       ·exact h3
       ·exact h3
       ·exact absurd hk h2,
    All_iff.2 fun f hm=>All_iff.1 hh.all f (del_mem f hm),fun f hm k hk=>hh.young f (del_mem f hm) k hk⟩
   have hg2:=facts_good hgd hhd (X:=delS s.dyn del) (fun k hX=>⟨(del_X hg hh hX).1,fun id b hb ho=>(del_X hg hh hX).2.1 id b (del_blk hg hb).1 ho,(del_X hg hh hX).2.2⟩) hnew
   have hh2:=facts_hold (del_hold hg hh hfr) hh.below.size (fun k hX=>(del_X hg hh hX).1) hnew
   have led:Led P w0 N D s o (.w α del r fs t') ({ delD s del with dyn:=fs x++(delD s del).dyn }.put o.dst (r x) none) w':=by
    refine ⟨put_good hg2 o.dst no_tag,put_hold hh2 _ _ _,?_,?_,?_,?_⟩
    ·cases del<;>exact Nat.le_refl _
    ·intro id b _ _ hb
     cases del with
     |none=>exact Iff.rfl
     |some j =>
      show _ ↔ findB (lowB s.blks) id=some b
      rw [lowB_iff hg.ids]
      obtain ⟨T,hT⟩:=hb
      constructor
      ·exact fun h=>⟨h,by rw [hT];simp⟩
      ·exact fun h=>h.1
    ·intro hi hnd
     cases del with
     |none=>exact imp_more hi
     |some j=>exact hnd.1 ho α j r fs t' rfl x
    ·intro id b hb _
     have hb:findB (delD s del).blks id=some b:=hb
     exact .inl (del_blk hg hb).1
   have hact:({ delD s del with dyn:=fs x++(delD s del).dyn }.put o.dst (r x) none).act=s.act.put o.dst (r x):=by cases del<;>rfl
   unfold Oper.wp
   have:=hn _ _ w' led hk
   rw [hact] at this
   rcases hrun with hrun | ⟨hrun,hu⟩
   ·rw [hrun,Oper.upon_value];exact this
   ·rw [hrun,Oper.upon_skip,← hu];exact this
  ·cases h
 ·rename_i T v ho
  obtain ⟨x,hop,hv'⟩:=lod_is ho
  have go:∀ r t',Yields0 P w0 s.dyn (Instr.loadAt T v) r→K (s.put o.dst r none) t'→o.wp P s.act w next Q:=fun r t' h1 h2=>by
   have hrun:(execOp s.act.eval o).run P w = .ok (.value r) w:=by
    have:=h1 w hh.below hh.all
    simp only [execOp,hop,Sem.run_bind,hv',this,Result.andThen_ok]
    rfl
   unfold Oper.wp
   rw [hrun,Oper.upon_value]
   exact hn _ t' w ⟨put_good hg o.dst no_tag,put_hold hh _ _ _,Nat.le_refl _,fun _ _ _ _ _=>Iff.rfl,fun hi _=>hi,fun _ _ h _=>.inl h⟩ h2
  unfold lodV at h
  split at h
  ·exact go _ _ h.1 h.2
  ·rename_i b tt ff
   cases b
   ·exact go _ _ h.1 (h.2.2 rfl)
   ·exact go _ _ h.1 (h.2.1 rfl)
  ·cases h
 ·cases h
theorem opsV_sound {ops:Array Oper} {K:St0→Tree→Prop} {Q:Exit→Act→World→Prop} (hK:∀ s t w,Good w0 N s→Hold w0 s w→K s t→Q .normal s.act w):∀ (l:List Oper) (s:St0) (t:Tree) (w:World),Good w0 N s→Hold w0 s w→opsV P w0 ops l K s t→wpList P ops Q l s.act w
 | [],s,t,w,hg,hh,h=>hK s t w hg hh h
 |o :: l,s,t,w,hg,hh,h=>by
  refine wpList_step fun K' hK'=>?_
  unfold opsV at h
  split at h
  ·rename_i hw
   rw [if_pos hw]
   exact opV_sound hg hh (fun _ _ h=>h) h (fun s' t' w' hl k=>hK' _ _ (opsV_sound hK l s' t' w' hl.good hl.hold k))
  ·rename_i hw
   rw [if_neg (by rw [hw];exact Bool.false_ne_true)]
   have:=opsV_sound hK l (s.put o.dst undef none) t w (put_good hg o.dst no_tag) (put_hold hh _ _ _) h
   exact hK' _ _ this
def PanicOk (Q:Exit→Act→World→Prop):Prop := ∀ c a d v w,Q (.panic c) (Act.put a d v) w→Q (.panic c) a w
theorem first_spec {ops:Array Oper} {s:St0} {n1:Nat} {listed:Array Bool} {mx:List Nat} : ∀ {l:List Nat} {i:Nat} {o:Oper} {b:Bool},first P ops s n1 listed mx l=some (i,o,b) →
  i ∈ l∧ops[i]?=some o∧Region.free .any ops listed i=true∧Region.wanted o (yielded ops s.act.tmps)=b∧(b=true→early P s o n1 mx=true)
 | [],i,o,b,h=>by simp [first] at h
 |j :: l,i,o,b,h=>by
  unfold first at h
  split at h
  ·cases h
  ·rename_i oj hoj
   cases hf:Region.free .any ops listed j
   ·rw [hf] at h
    simp only [cond_false] at h
    have:=first_spec h
    exact ⟨List.mem_cons_of_mem _ this.1,this.2⟩
   ·rw [hf] at h
    simp only [cond_true] at h
    split at h
    ·rename_i hw
     cases he:early P s oj n1 mx
     ·rw [he] at h
      simp only [cond_false] at h
      have:=first_spec h
      exact ⟨List.mem_cons_of_mem _ this.1,this.2⟩
     ·rw [he] at h
      simp only [cond_true,Option.some.injEq,Prod.mk.injEq] at h
      obtain ⟨rfl,rfl,rfl⟩:=h
      exact ⟨List.mem_cons_self,hoj,hf,hw,fun _=>he⟩
    ·rename_i hw
     simp only [Option.some.injEq,Prod.mk.injEq] at h
     obtain ⟨rfl,rfl,rfl⟩:=h
     exact ⟨List.mem_cons_self,hoj,hf,hw,fun h=>by cases h⟩
def Stands (w0:World) (D0:List Fact) (s0:St0) (mx:List Nat) (w:World):Prop:=Below w0.heap.size w0 w∧All D0 w∧∀ id b,findB s0.blks id=some b→b.isOwn→mx.contains id=false→BOk w0 D0 w b
structure Kept (w0:World) (D0:List Fact) (s0:St0) (mx:List Nat) (s:St0):Prop where
 nxt:s0.nxt≤s.nxt
 same:∀ id b,id < s0.nxt→mx.contains id=false→b.isOwn→(findB s0.blks id=some b ↔ findB s.blks id=some b)
 dyn:Imp w0 s.dyn D0
 ext:∀ id b,findB s.blks id=some b→b.own = .dyn→Reads0 w0 D0 b.g b.o b.cells
theorem BOk.own_any {D D' : List Fact} {w:World} {b:Blk} (h:BOk w0 D w b) (ho:b.isOwn):BOk w0 D' w b:=by
 obtain ⟨T,hT⟩:=ho
 unfold BOk at *
 simp only [hT] at *
 exact h
theorem stands_of {D0:List Fact} {s0 s:St0} (h0:Good w0 N s0) {mx:List Nat} (hk:Kept w0 D0 s0 mx s) {w:World} (hh:Hold w0 s w):Stands w0 D0 s0 mx w :=
 ⟨hh.below,hk.dyn w hh.below hh.all,fun id b hf ho hm=>(hh.blk id b ((hk.same id b (h0.fresh id b hf) hm ho).1 hf)).own_any ho⟩
theorem kept_led {D0:List Fact} {s0 s s' : St0} {mx:List Nat} (hk:Kept w0 D0 s0 mx s) {o:Oper} {t:Tree} {w' : World} (hl:Led P w0 N D0 s o t s' w') (hs:∀ id,id < s0.nxt→mx.contains id=false→¬ Hits P s o t id) (hd:DelOk P w0 D0 s o t):Kept w0 D0 s0 mx s' :=
 ⟨Nat.le_trans hk.nxt hl.nxt,fun id b hid hm ho=>(hk.same id b hid hm ho).trans (hl.same id b (Nat.lt_of_lt_of_le hid hk.nxt) (hs id hid hm) ho),
  hl.dyn hk.dyn hd,fun id b hb ho=>by
   rcases hl.ext id b hb ho with h | h
   ·exact hk.ext id b h ho
   ·exact h⟩
theorem turn_sound {ops:Array Oper} {Q:Exit→Act→World→Prop} {D0:List Fact} {s0:St0} (h0:Good w0 N s0) {mx:List Nat} {s:St0} {w:World} (hg:Good w0 N s) (hh:Hold w0 s w) (hk:Kept w0 D0 s0 mx s) {i:Nat} {o:Oper} (ho:ops[i]?=some o) {t:Tree} {K:St0→Tree→Prop}
  (h:turnV P w0 D0 ops s0.nxt mx s o t K) {next:Act→World→Prop} (hn:∀ s' t' w',Good w0 N s'→Hold w0 s' w'→Kept w0 D0 s0 mx s'→K s' t'→next s'.act w'):wpOp P ops Q i next s.act w:=by
 unfold turnV at h
 split at h
 ·rename_i hw
  unfold wpOp
  rw [ho]
  show (if Region.wanted o (yielded ops s.act.tmps)=true then _ else _)
  rw [if_pos hw]
  left
  have key:opV P w0 D0 s o t K∧(∀ id,id < s0.nxt→mx.contains id=false→¬ Hits P s o t id)∧DelOk P w0 D0 s o t:=by
   split at h
   ·rename_i id off v hs
    cases hc:(mx.contains id || Nat.ble s0.nxt id)
    ·rw [hc] at h;cases h
    ·rw [hc] at h
     refine ⟨h,fun j hj hm hh=>?_,fun he=>(by rw [hs] at he;cases he),fun f args he=>(by rw [hs] at he;cases he)⟩
     rcases hh with ⟨off',v',he⟩ | ⟨⟨f,args,he⟩,_⟩
     ·rw [hs] at he
      simp only [OutV.sto.injEq] at he
      obtain ⟨rfl,_,_⟩:=he
      rw [hm,Bool.false_or] at hc
      have:=ble_iff.1 hc
      omega
     ·rw [hs] at he;cases he
   ·rename_i f args hs
    have hmem:outOf P s o ≠ .mem:=by rw [hs];intro e;cases e
    split at h
    ·refine ⟨h.2,fun j hj hm hh=>?_,fun he=>absurd he hmem,fun f' args' he id α r cs fs t' e=>?_⟩
     ·rcases hh with ⟨off',v',he⟩ | ⟨_,α,r,cs,fs,t',e⟩
      ·rw [hs] at he;cases he
      ·cases e
     ·cases e;exact h.1
    ·rename_i id α r cs fs t'
     cases hc:(mx.contains id || Nat.ble s0.nxt id)
     ·rw [hc] at h;cases h
     ·rw [hc] at h
      have h:(∀ x,Imp w0 (fs x) D0)∧opV P w0 D0 s o (.cD (some id) α r cs fs t') K:=h
      refine ⟨h.2,fun j hj hm hh=>?_,fun he=>absurd he hmem,fun f' args' he id' α' r' cs' fs' t'' e=>?_⟩
      ·rcases hh with ⟨off',v',he⟩ | ⟨_,α',r',cs',fs',t'',e⟩
       ·rw [hs] at he;cases he
       ·cases e
        rw [hm,Bool.false_or] at hc
        have:=ble_iff.1 hc
        omega
      ·cases e;exact h.1
    ·rename_i hn1 hn2
     refine ⟨h,fun j hj hm hh=>?_,fun he=>absurd he hmem,fun f' args' he id' α' r' cs' fs' t'' e=>?_⟩
     ·rcases hh with ⟨off',v',he⟩ | ⟨_,α',r',cs',fs',t'',e⟩
      ·rw [hs] at he;cases he
      ·exact (hn2 _ _ _ _ _ _ e).elim
     ·subst e
      cases id' with
      |none=>exact (hn1 _ _ _ _ _ rfl).elim
      |some q=>exact (hn2 _ _ _ _ _ _ rfl).elim
   ·rename_i hs
    have hno:∀ id,¬ Hits P s o t id:=fun id hh=>by
     rcases hh with ⟨off',v',he⟩ | ⟨⟨f,args,he⟩,_⟩<;>rw [hs] at he<;>cases he
    split at h
    ·exact ⟨h,fun id _ _=>hno id,fun _ α j r fs t' e=>(by cases e),fun f args he=>(by rw [hs] at he;cases he)⟩
    ·refine ⟨h.2,fun id _ _=>hno id,fun _ α j r fs t' e=>?_,fun f args he=>(by rw [hs] at he;cases he)⟩
     injection e with e1 e2 e3 e4 e5
     subst e1
     injection e2 with e2
     subst e2
     have e4:=eq_of_heq e4
     subst e4
     exact h.1
    ·cases h
   ·rename_i hns hne hnm
    refine ⟨h,fun id _ _ hh=>?_,fun he=>absurd he hnm,fun f args he=>absurd he (hne f args)⟩
    rcases hh with ⟨off',v',he⟩ | ⟨⟨f,args,he⟩,_⟩
    ·exact absurd he (hns _ _ _)
    ·exact absurd he (hne _ _)
  exact opV_sound hg hh hk.dyn key.1 (fun s' t' w' hl k=>hn s' t' w' hl.good hl.hold (kept_led hk hl key.2.1 key.2.2) k)
 ·cases h
theorem anyV_sound {ops:Array Oper} {K:St0→Tree→Prop} {Q:Exit→Act→World→Prop} (hQ:PanicOk Q) (hsel:Region.noSelect ops=true) (hK:∀ s t w,Good w0 N s→Hold w0 s w→K s t→Q .normal s.act w) {D0:List Fact} {s0:St0} (h0:Good w0 N s0) {mx:List Nat} :
  ∀ (n:Nat) (listed:Array Bool) (s:St0) (t:Tree) (w:World),Good w0 N s→Hold w0 s w→Kept w0 D0 s0 mx s→anyV P w0 D0 ops s0.nxt mx K n listed s t→wpAnyH P .any ops Q (Stands w0 D0 s0 mx) n listed s.act w
 | 0,listed,s,t,w,hg,hh,hk,h=>by
  unfold anyV at h
  split at h
  ·rename_i hr
   exact wpAnyH_done hr (hK s t w hg hh h) 0
  ·cases h
 |n + 1,listed,s,t,w,hg,hh,hk,h=>by
  unfold anyV at h
  split at h
  ·rename_i hr
   exact wpAnyH_done hr (hK s t w hg hh h) _
  ·rename_i r rs hr
   split at h
   ·rename_i v u
    split at h
    ·rename_i o ho
     obtain ⟨hw,hy,h⟩:=h
     have hk' : Kept w0 D0 s0 mx (s.put o.dst v none):=⟨hk.nxt,hk.same,hk.dyn,hk.ext⟩
     have hh' : Hold w0 (s.put o.dst v none) w:=put_hold hh _ _ _
     refine wpAnyH_all hr (by simp) fun i hi=>?_
     simp at hi
     subst hi
     unfold wpOp
     rw [ho]
     show (if Region.wanted o (yielded ops s.act.tmps)=true then _ else _)
     rw [if_pos hw]
     left
     unfold Oper.wp
     rw [yields_run hy hh.below hh.all,Oper.upon_value]
     exact ⟨stands_of h0 hk' hh',anyV_sound hQ hsel hK h0 n _ (s.put o.dst v none) u w (put_good hg o.dst no_tag) hh' hk' h⟩
    ·cases h
   rename_i t _
   split at h
   ·rename_i i o hf
    obtain ⟨hi,ho,hfree,hw,he⟩:=first_spec hf
    obtain ⟨v,s',t',ht,hks⟩:=take_cases hg hk.dyn h (he rfl)
    have hout:=early_out (he rfl)
    have hk' : Kept w0 D0 s0 mx s':=kept_led hk (led_took (t:=t) ht hh) (fun id _ _ hh=>by rcases hh with ⟨off',v',hs⟩ | ⟨⟨f,args,hs⟩,_⟩<;>(rcases hout with ⟨_,_,h⟩ | ⟨_,h⟩ | h<;>rw [h] at hs<;>cases hs)) ⟨fun hs=>(by rcases hout with ⟨_,_,h⟩ | ⟨_,h⟩ | h<;>rw [h] at hs<;>cases hs),fun f args hs=>(by rcases hout with ⟨_,_,h⟩ | ⟨_,h⟩ | h<;>rw [h] at hs<;>cases hs)⟩
    refine wpAnyH_take (v:=v) ho hsel hfree (by rw [hr];simpa using hi) (fun c a w hh=>hQ c a _ _ w hh) (.inl ⟨hw,fun w' hS=>ht.run w' hS.1 hS.2.1 (fun id b hb hold i u hu=>?_)⟩) (stands_of h0 hk hh) ?_
    ·unfold oldB at hold
     rw [hb] at hold
     cases hT:b.own with
     |own T =>
      simp only [hT] at hold
      rw [Bool.and_eq_true] at hold
      have h1:=blt_iff.1 hold.1
      have h2:mx.contains id=false:=by simpa using hold.2
      exact (hS.2.2 id b ((hk.same id b h1 h2 ⟨T,hT⟩).2 hb) ⟨T,hT⟩ h2).cell hS.1 hS.2.1 hu
     |low =>
      have:=hh.blk id b hb
      unfold BOk at this
      simp only [hT] at this
      exact this w' hS.1 trivial i u hu
     |dyn=>exact hk.ext id b hb hT w' hS.1 hS.2.1 i u hu
    ·rw [← ht.act]
     exact anyV_sound hQ hsel hK h0 n _ s' t' w ht.good (ht.hold w hh) hk' hks
   ·rename_i i o hf
    obtain ⟨hi,ho,hfree,hw,_⟩:=first_spec hf
    refine wpAnyH_take (v:=undef) ho hsel hfree (by rw [hr];simpa using hi) (fun c a w hh=>hQ c a _ _ w hh) (.inr ⟨hw,rfl⟩) (stands_of h0 hk hh) ?_
    exact anyV_sound hQ hsel hK h0 n _ (s.put o.dst undef none) _ w (put_good hg o.dst no_tag) (put_hold hh _ _ _) ⟨hk.nxt,hk.same,hk.dyn,hk.ext⟩ h
   ·have go:∀ {i:Nat} {o:Oper} {t:Tree},ops[i]?=some o→turnV P w0 D0 ops s0.nxt mx s o t (anyV P w0 D0 ops s0.nxt mx K n (listed.setIfInBounds i true))→wpOp P ops Q i (fun a' w'=>Stands w0 D0 s0 mx w'∧wpAnyH P .any ops Q (Stands w0 D0 s0 mx) n (listed.setIfInBounds i true) a' w') s.act w:=fun ho ht =>
     turn_sound h0 hg hh hk ho ht (fun s' t' w' g' h' k' kk=>⟨stands_of h0 k' h',anyV_sound hQ hsel hK h0 n _ s' t' w' g' h' k' kk⟩)
    split at h
    ·rename_i t o ho
     refine wpAnyH_all hr (by simp) fun i hi=>?_
     simp at hi
     subst hi
     exact go (by assumption) h
    ·rename_i r2 tt ff o ho
     split at h
     ·rename_i o2 ho2
      refine wpAnyH_all hr (by simp) fun i hi=>?_
      simp at hi
      rcases hi with rfl | rfl
      ·exact go (by assumption) h.1
      ·exact go ho2 h.2
     ·cases h
    ·rename_i r2 r3 tt ff uu o ho
     split at h
     ·rename_i o2 o3 ho2 ho3
      refine wpAnyH_all hr (by simp) fun i hi=>?_
      simp at hi
      rcases hi with rfl | rfl | rfl
      ·exact go (by assumption) h.1
      ·exact go ho2 h.2.1
      ·exact go ho3 h.2.2
     ·cases h
    ·cases h
theorem wp_loop_by {α:Type} {c:Code} {Q:Exit→Act→World→Prop} {a:Act} {w:World} (J:α→Act→World→Prop) (μ:α→Nat) {x0:α} (h0:J x0 a w)
  (round:∀ x a w,J x a w→c.wp P (Exit.then (fun a' w' => ∃ x',J x' a' w'∧μ x' < μ x) Q) a w):(Code.loop c).wp P Q a w:=by
 have least:∀ (n:Nat) (a:Act) (w:World) (x:α),μ x≤n→J x a w→∃ x,J x a w∧∀ y,J y a w→μ x≤μ y:=by
  intro n
  induction n with
  |zero=>exact fun a w x hx hJ=>⟨x,hJ,fun y _=>by omega⟩
  |succ n ih =>
   intro a w x hx hJ
   by_cases h:∃ y,J y a w∧μ y≤n
   ·obtain ⟨y,hy,hl⟩:=h
    exact ih a w y hl hy
   ·exact ⟨x,hJ,fun y hy=>by
     rcases Nat.lt_or_ge n (μ y) with h2 | h2
     ·omega
     ·exact absurd ⟨y,hy,h2⟩ h⟩
 have pick:∀ (a:Act) (w:World),(∃ x,J x a w)→∃ x,J x a w∧∀ y,J y a w→μ x≤μ y:=fun a w ⟨x,hx⟩=>least (μ x) a w x (Nat.le_refl _) hx
 open Classical in
 refine wp_loop (fun a w => ∃ x,J x a w) (fun a w=>if h:∃ x,J x a w then μ (Classical.choose (pick a w h)) else 0) ⟨x0,h0⟩ ?_
 intro a w hJ
 have hc:=Classical.choose_spec (pick a w hJ)
 refine wp_mono (round _ a w hc.1) ?_
 intro e a' w' he
 cases e with
 |normal =>
  obtain ⟨x',hx',hl⟩:=he
  have hJ' : ∃ x,J x a' w':=⟨x',hx'⟩
  refine ⟨hJ',?_⟩
  have hc':=Classical.choose_spec (pick a' w' hJ')
  have:=hc'.2 x' hx'
  simp only [dif_pos hJ',dif_pos hJ]
  omega
 | _=>exact he
theorem spread_len (τ:Nat→Value) (l:List (Nat × Value × Option (Nat × Nat))):∀ (vs:List Value) (n:Nat),(spread τ l n vs).length=vs.length
 | [],_=>rfl
 | _ :: vs,n=>by simp [spread,spread_len τ l vs (n+1)]
theorem spread_at (τ:Nat→Value) (l:List (Nat × Value × Option (Nat × Nat))):∀ (vs:List Value) (n j:Nat),j < vs.length→(spread τ l n vs)[j]?=some (match l.find? fun x=>Nat.beq x.1 (n+j) with | some x=>x.2.1 | none=>τ (n+j))
 | [],_,j,h=>by simp at h
 | _ :: vs,n,0,_=>by simp [spread];rfl
 | _ :: vs,n,j+1,h=>by
  simp only [spread,List.getElem?_cons_succ]
  rw [spread_at τ l vs (n+1) j (by simpa using h),show n+1+j=n+(j+1) by omega]
theorem headB_mem {s:St0} (hids:s.blks.Pairwise fun x y=>x.1≠y.1) {keep:List Nat} {m:List (Nat × Array Value)} {id:Nat} {b:Blk} (h:(id,b) ∈ headB s keep m):∃ b',(id,b') ∈ s.blks∧b'.own=b.own∧b'.own ≠ .dyn:=by
 unfold headB at h
 rw [List.mem_filterMap] at h
 obtain ⟨x,hx,he⟩:=h
 have h2:(lowB s.blks).Pairwise fun x y=>x.1≠y.1:=hids.sublist List.filter_sublist
 have h3:=(lowB_iff hids).1 ((findB_iff h2).2 (show (x.1,x.2) ∈ lowB s.blks from hx))
 have h4:(x.1,x.2) ∈ s.blks:=findB_mem h3.1
 split at he
 ·simp only [Option.some.injEq,Prod.mk.injEq] at he
  obtain ⟨rfl,rfl⟩:=he
  exact ⟨x.2,h4,rfl,h3.2⟩
 ·cases hk:keep.any (Nat.beq x.1)<;>rw [hk] at he<;>simp at he
  subst he
  exact ⟨_,h4,rfl,h3.2⟩
theorem headB_ids {s:St0} (hids:s.blks.Pairwise fun x y=>x.1≠y.1) (keep:List Nat) (m:List (Nat × Array Value)):(headB s keep m).Pairwise fun x y=>x.1≠y.1:=by
 have h2:(lowB s.blks).Pairwise fun x y=>x.1≠y.1:=hids.sublist List.filter_sublist
 unfold headB
 refine List.Pairwise.filterMap _ ?_ h2
 intro x y hne u hu v hv
 have one:∀ {x u:Nat × Blk},(match m.find? fun y=>Nat.beq y.1 x.1 with | some y=>some (x.1,{ x.2 with cells:=y.2 }) | none=>bif keep.any (Nat.beq x.1) then some x else none)=some u→u.1=x.1:=fun {x u} h=>by
  split at h
  ·simp only [Option.some.injEq] at h;rw [← h]
  ·cases hk:keep.any (Nat.beq x.1)<;>rw [hk] at h<;>simp at h
   rw [h]
 rw [one hu,one hv]
 exact hne
theorem findT_map:∀ {l:List (Nat × Value × Option (Nat × Nat))} {t:Nat} {g:Nat × Nat},findT (l.map fun x=>(x.1,x.2.2)) t=some g→∃ x,l.find? (fun x=>Nat.beq x.1 t)=some x∧x ∈ l∧x.1=t∧x.2.2=some g
 | [],t,g,h=>by simp [findT] at h
 |x :: l,t,g,h=>by
  simp only [List.map_cons] at h
  rw [findT_cons] at h
  by_cases e:x.1=t
  ·rw [if_pos e] at h
   exact ⟨x,by rw [List.find?_cons];simp [e],List.mem_cons_self,e,h⟩
  ·rw [if_neg e] at h
   obtain ⟨y,h1,h2,h3,h4⟩:=findT_map h
   exact ⟨y,by rw [List.find?_cons,beq_no e];exact h1,List.mem_cons_of_mem _ h2,h3,h4⟩
theorem head_ok' {s s' : St0} (hsz:s.act.tmps.size=N) (hdf:s.act.defers=[]) (hids:s.blks.Pairwise fun x y=>x.1≠y.1) (hfr:∀ id b,findB s.blks id=some b→id < s.nxt) (hg:Good w0 N s') {w:World} (hh:Hold w0 s' w) {keep:List Nat} {l:List (Nat × Value × Option (Nat × Nat))} {m:List (Nat × Array Value)} {dyn:List Fact} (hm:matchS w0 s s' keep l m dyn) (ht:tagsOk s s' keep l m=true) :
  ∃ τ,s'.act=(headS s τ keep l m dyn).act∧Good w0 N (headS s τ keep l m dyn)∧Hold w0 (headS s τ keep l m dyn) w:=by
 obtain ⟨hm1,hm2,hm3⟩:=hm
 obtain ⟨ht1,ht2,ht3,ht4⟩:=hm3 hg.stable hg.apartF
 have hv:∀ x ∈ l,s'.act.tmps.getD x.1 undef=x.2.1:=List.map_inj_left.1 hm1
 have hb:∀ id b,(id,b) ∈ headB s keep m→findB s'.blks id=some b:=fun id b h=>List.map_inj_left.1 hm2 (id,b) h
 have hact:s'.act=(headS s (fun n=>s'.act.tmps.getD n undef) keep l m dyn).act:=by
  obtain ⟨⟨tm,df⟩,tg,bl,nx,dy⟩:=s'
  obtain ⟨⟨tm0,df0⟩,tg0,bl0,nx0,dy0⟩:=s
  have h1:=hg.size
  have h2:=hsz
  have h3:=hg.defers
  have h4:=hdf
  simp only at h1 h2 h3 h4
  subst h3 h4
  simp only [headS,Act.mk.injEq,and_true]
  apply Array.ext'
  apply List.ext_getElem?
  intro j
  simp only
  by_cases hj:j < N
  ·rw [spread_at _ _ _ _ _ (by simp;omega),Nat.zero_add]
   have hjt:tm.toList[j]?=some (tm.getD j undef):=by
    rw [Array.getElem?_toList,Array.getD_eq_getD_getElem?,Array.getElem?_eq_getElem (by omega)];rfl
   rw [hjt]
   split
   ·rename_i x hx
    have hmem:=List.mem_of_find?_eq_some hx
    have hxj:=List.find?_some hx
    have:=hv x hmem
    rw [Nat.eq_of_beq_eq_true hxj] at this
    rw [← this]
   ·rfl
  ·rw [List.getElem?_eq_none (by simp;omega),List.getElem?_eq_none (by rw [spread_len];simp;omega)]
 refine ⟨_,hact,⟨?_,?_,?_,?_,?_,ht1,?_,ht2,headB_ids hids keep m⟩,⟨hh.below,?_,ht4 w hh.below hh.all,fun f hf k hk=>by
  obtain ⟨g,hg1,hg2⟩:=ht3 f hf k hk
  exact hh.young g hg1 k hg2⟩⟩
 ·rw [← hact];exact hg.size
 ·rw [← hact];exact hg.defers
 ·intro i1 b1 i2 b2 f1 f2 o1 o2 hne
  exact hg.apart _ _ _ _ (hb _ _ (findB_mem f1)) (hb _ _ (findB_mem f2)) o1 o2 hne
 ·intro id b hf
  obtain ⟨b',hb',_⟩:=headB_mem hids (findB_mem hf)
  obtain ⟨c,hc⟩:=findB_of hb'
  exact hfr id c hc
 ·intro t id off htg
  obtain ⟨x,h1,h2,h3,h4⟩:=findT_map htg
  unfold tagsOk at ht
  have:=List.all_eq_true.1 ht x h2
  rw [h4] at this
  simp only [Bool.and_eq_true,beq_iff_eq] at this
  obtain ⟨b,hfb,hp⟩:=hg.tag x.1 id off this.1
  obtain ⟨b2,hfb2⟩:=findB_any this.2
  have:=hb _ _ (findB_mem hfb2)
  rw [hfb] at this
  obtain rfl:=Option.some.inj this
  rw [← hact,← h3]
  exact ⟨b,hfb2,hp⟩
 ·intro f hf id b hfb ho
  intro hk
  obtain ⟨g,hg1,hg2⟩:=ht3 f hf b.g hk
  exact hg.apartB g hg1 id b (hb _ _ (findB_mem hfb)) ho hg2
 ·intro id b hf
  have h1:=hh.blk id b (hb _ _ (findB_mem hf))
  obtain ⟨b',hb',ho,hd⟩:=headB_mem hids (findB_mem hf)
  rw [ho] at hd
  unfold BOk at h1 ⊢
  split<;>rename_i hk<;>simp only [hk] at h1
  ·exact h1
  ·exact h1
  ·exact absurd hk hd
theorem head_ok {s s' : St0} (hs:Good w0 N s) (hg:Good w0 N s') {w:World} (hh:Hold w0 s' w) {keep:List Nat} {l:List (Nat × Value × Option (Nat × Nat))} {m:List (Nat × Array Value)} {dyn:List Fact} (hm:matchS w0 s s' keep l m dyn) (ht:tagsOk s s' keep l m=true) :
  ∃ τ,s'.act=(headS s τ keep l m dyn).act∧Good w0 N (headS s τ keep l m dyn)∧Hold w0 (headS s τ keep l m dyn) w:=head_ok' hs.size hs.defers hs.ids hs.fresh hg hh hm ht
theorem distB_pair:∀ {l:List (Nat × Blk)},distB l=true→l.Pairwise fun x y=>x.1≠y.1
 | [],_=>List.Pairwise.nil
 |x :: l,h=>by
  unfold distB at h
  rw [Bool.and_eq_true,List.all_eq_true] at h
  refine List.pairwise_cons.2 ⟨fun y hy e=>?_,distB_pair h.2⟩
  have:=h.1 y hy
  rw [e] at this
  simp at this
theorem ext_ok {s:St0} (hs:Good w0 N s) {ext:List (Nat × Blk)} {nx:Nat} (h:extOk s ext nx=true):((addX s ext nx).blks.Pairwise fun x y=>x.1≠y.1)∧∀ id b,findB (addX s ext nx).blks id=some b→id < nx:=by
 unfold extOk at h
 simp only [Bool.and_eq_true,List.all_eq_true,Nat.ble_eq,Nat.blt_eq] at h
 obtain ⟨⟨h1,h2⟩,h3⟩:=h
 have hold:∀ x ∈ s.blks,x.1 < s.nxt:=fun x hx=>by
  obtain ⟨c,hc⟩:=findB_of (show (x.1,x.2) ∈ s.blks from hx)
  exact hs.fresh x.1 c hc
 refine ⟨List.pairwise_append.2 ⟨distB_pair h3,hs.ids,fun x hx y hy=>?_⟩,fun id b hf=>?_⟩
 ·have:=(h1 x hx).1;have:=hold y hy;omega
 ·rcases List.mem_append.1 (findB_mem hf) with hm | hm
  ·exact (h1 _ hm).2
  ·have:=hold _ hm;simp only at this;omega
theorem panic_then {K:Act→World→Prop} {Q:Exit→Act→World→Prop} (h:PanicOk Q):PanicOk (Exit.then K Q):=fun c a d v w hh=>h c a d v w hh
theorem panic_block {id:Nat} {Q:Exit→Act→World→Prop} (h:PanicOk Q):PanicOk (Exit.inBlock id Q):=fun c a d v w hh=>h c a d v w hh
theorem splitV_some {R:Tree→Prop} : ∀ (t:Tree),splitV R t→∃ t,R t
 | .gs b t f,h=>by
  unfold splitV at h
  cases b
  ·exact splitV_some f (h.2 rfl)
  ·exact splitV_some t (h.1 rfl)
 | .z,h | .k _,h | .s _ _,h | .m _ _,h | .e _ _,h | .x _ _,h | .xs _ _ _,h | .p _ _ _ _,h | .q _ _ _ _,h | .c _ _,h | .cs _ _ _,h | .cm _ _ _ _,h | .cB _ _ _,h | .rel _ _,h | .now _ _,h | .u _ _,h | .cD none _ _ _ _ _,h | .cD (some _) _ _ _ _ _,h | .w _ _ _ _ _,h | .o _ _,h | .ow _ _ _,h | .two _ _,h | .three _ _ _,h | .l _ _ _ _ _ _ _ _ _ _,h | .j _ _ _ _ _ _ _ _ _ _ _,h=>⟨_,h⟩
theorem outB_iff {bl:List (Nat × Blk)} {id i:Nat} {b:Blk} (h:bl.Pairwise fun x y=>x.1≠y.1):findB (outB bl id) i=some b ↔ findB bl i=some b∧i≠id:=by
 have h2:(outB bl id).Pairwise fun x y=>x.1≠y.1:=h.sublist List.filter_sublist
 rw [findB_iff h2,findB_iff h]
 unfold outB
 rw [List.mem_filter]
 have e:(!Nat.beq i id)=true ↔ i≠id:=by
  cases hb:Nat.beq i id
  ·simp;rintro rfl;simp at hb
  ·simp;exact Nat.eq_of_beq_eq_true hb
 rw [e]
theorem rel_good {s:St0} (hg:Good w0 N s) {id g o:Nat} {cs:Array Value} {T:TypeId} (hf:findB s.blks id=some ⟨g,o,cs,.own T⟩):Good w0 N (relS s id (cellsF g cs T)):=by
 have was:∀ {i:Nat} {b:Blk},findB (outB s.blks id) i=some b→findB s.blks i=some b∧i≠id:=fun h=>(outB_iff hg.ids).1 h
 refine ⟨hg.size,hg.defers,?_,?_,?_,?_,?_,?_,?_⟩
 ·intro i1 b1 i2 b2 f1 f2 o1 o2 hne
  exact hg.apart _ _ _ _ (was f1).1 (was f2).1 o1 o2 hne
 ·intro i b f1;exact hg.fresh _ _ (was f1).1
 ·intro t i off ht
  have ht:findT (s.tags.map fun x=>(x.1,keepT (outB s.blks id) x.2)) t=some (i,off):=ht
  rw [findT_keep] at ht
  unfold keepT at ht
  split at ht
  ·rename_i g hg1
   split at ht
   ·rename_i b hb
    obtain rfl:=Option.some.inj ht
    obtain ⟨c,hc,hp⟩:=hg.tag t i off hg1
    have:=(was hb).1
    rw [hc] at this
    obtain rfl:=Option.some.inj this
    exact ⟨c,hb,hp⟩
   ·cases ht
  ·cases ht
 ·intro f hm
  rcases List.mem_cons.1 hm with rfl | hm
  ·exact cellsF_stable _ _ _
  ·exact hg.stable f hm
 ·intro f hm i b hb ho
  rcases List.mem_cons.1 hm with rfl | hm
  ·exact hg.apart _ _ _ _ (was hb).1 hf ho ⟨T,rfl⟩ (was hb).2
  ·exact hg.apartB f hm i b (was hb).1 ho
 ·refine List.pairwise_cons.2 ⟨fun f hm k hk=>?_,hg.apartF⟩
  have hk:k=g:=hk
  subst hk
  exact hg.apartB f hm id _ hf ⟨T,rfl⟩
 ·exact hg.ids.sublist List.filter_sublist
theorem rel_hold {s:St0} (hg:Good w0 N s) {w:World} (hh:Hold w0 s w) {id g o:Nat} {cs:Array Value} {T:TypeId} (hf:findB s.blks id=some ⟨g,o,cs,.own T⟩):Hold w0 (relS s id (cellsF g cs T)) w:=by
 have hb:=hh.blk id _ hf
 have hl:=hb.lt ⟨T,rfl⟩
 unfold BOk at hb
 simp only at hb
 refine ⟨hh.below,fun i b h=>(hh.blk i b ((outB_iff hg.ids).1 h).1).mono (imp_sub fun f hf=>List.mem_cons_of_mem _ hf),⟨hb.2.2,hh.all⟩,fun f hm k hk=>?_⟩
 rcases List.mem_cons.1 hm with rfl | hm
 ·have hk:k=g:=hk
  subst hk
  exact hl
 ·exact hh.young f hm k hk
theorem codeV_sound:∀ (c:Code) (K:Exit→St0→Tree→Prop) (Q:Exit→Act→World→Prop),PanicOk Q→(∀ e s t w,Good w0 N s→Hold w0 s w→K e s t→Q e s.act w) →
  ∀ (s:St0) (t:Tree) (w:World),Good w0 N s→Hold w0 s w→codeV P w0 c K s t→c.wp P Q s.act w:=by
 intro c
 induction c with
 |skip=>intro K Q hQ hK s t w hg hh h;exact wp_skip (hK _ _ _ _ hg hh h)
 |region id ops dr =>
  intro K Q hQ hK s t w hg hh h
  have plain:∀ (s:St0) (t:Tree),Good w0 N s→Hold w0 s w→(bif hasCall ops then splitV (regV P w0 ops dr K s) t else regV P w0 ops dr K s t)→(Code.region id ops dr).wp P Q s.act w:=by
   intro s t hg hh h
   obtain ⟨t,h⟩:∃ t,regV P w0 ops dr K s t:=by
    cases hc:hasCall ops<;>rw [hc] at h
    ·exact ⟨t,h⟩
    ·exact splitV_some t h
   cases dr
   ·exact wp_region_list (opsV_sound (hK .normal) ops.toList s t w hg hh h)
   ·cases t<;>simp only [regV] at h
    rename_i mx t
    split at h
    ·rename_i h1 h2
     have hd:Hold w0 s w.drew:=⟨hh.below.drew,fun id b hf=>(hh.blk id b hf).later (fun _ _=>rfl),all_later hg.stable hh.all (fun _ _ _ _=>rfl),hh.young⟩
     exact wp_region_held h1 (anyV_sound hQ h2 (hK .normal) hg ops.size _ s t w.drew hg hd ⟨Nat.le_refl _,fun _ _ _ _ _=>Iff.rfl,fun _ _ h=>h,fun id b hb ho=>by have:=hh.blk id b hb;unfold BOk at this;simp only [ho] at this;exact this⟩ h)
    ·cases h
    rename_i mx D0 t
    obtain ⟨hi,h⟩:=h
    split at h
    ·rename_i h1 h2
     have hd:Hold w0 s w.drew:=⟨hh.below.drew,fun id b hf=>(hh.blk id b hf).later (fun _ _=>rfl),all_later hg.stable hh.all (fun _ _ _ _=>rfl),hh.young⟩
     have hgd:=del_good hg (some s.dyn.length)
     have he:(delD s (some s.dyn.length)).dyn=s.dyn:=List.eraseIdx_of_length_le (Nat.le_refl _)
     have hhd:Hold w0 (delD s (some s.dyn.length)) w.drew:=⟨hd.below,fun id b hb=>by
       obtain ⟨h1,h2⟩:=del_blk hg hb
       have h3:=hd.blk id b h1
       rcases h2 with h2 | h2
       ·cases h2
       ·unfold BOk at h3 ⊢
        split<;>rename_i hk<;>simp only [hk] at h3
        ·exact h3
        ·exact h3
        ·exact absurd hk h2,by rw [he];exact hd.all,fun f hf=>hd.young f (by rw [he] at hf;exact hf)⟩
     exact wp_region_held h1 (anyV_sound (s0:=delD s (some s.dyn.length)) hQ h2 (hK .normal) hgd ops.size _ (delD s (some s.dyn.length)) t w.drew hgd hhd ⟨Nat.le_refl _,fun _ _ _ _ _=>Iff.rfl,by rw [he];exact hi,fun id b hb ho=>by
      obtain ⟨h1,h2⟩:=del_blk hg hb
      rcases h2 with h2 | h2
      ·cases h2
      ·exact absurd ho h2⟩ h)
    ·cases h
  have key:∀ (t:Tree) (s:St0),Good w0 N s→Hold w0 s w→relV (fun s t=>bif hasCall ops then splitV (regV P w0 ops dr K s) t else regV P w0 ops dr K s t) t s→(Code.region id ops dr).wp P Q s.act w:=by
   intro t
   induction t with
   |rel j u ih =>
    intro s hg hh h
    unfold relV at h
    split at h
    ·rename_i hf
     exact ih _ (relS s _ _) (rel_good hg hf) (rel_hold hg hh hf) h
    ·exact plain s _ hg hh h
   | _=>intro s hg hh h;exact plain s _ hg hh h
  simp only [codeV] at h
  exact key t s hg hh h
 |seq a b iha ihb =>
  intro K Q hQ hK s t w hg hh h
  have plain:∀ t,codeV P w0 a (fun e s t=>match e with | .normal=>codeV P w0 b K s t | e=>K e s t) s t→(Code.seq a b).wp P Q s.act w:=by
   intro t h
   refine wp_seq (iha _ _ (panic_then hQ) ?_ s t w hg hh h)
   intro e s t w hg hh h
   cases e with
   |normal=>exact ihb K Q hQ hK s t w hg hh h
   | _=>exact hK _ _ _ _ hg hh h
  simp only [codeV] at h
  split at h
  ·rename_i n α set mem keep dyn I ext nx t1 u
   cases hb:Nat.beq (firstR b) n<;>rw [hb] at h
   ·exact plain _ h
   obtain ⟨h,hn⟩:=h
   refine wp_seq (iha _ _ (panic_then hQ) ?_ s _ w hg hh h)
   intro e s' t' w' hg' hh' hk
   cases e with
   |normal =>
    obtain ⟨x',hI,hm,ht⟩:=hk
    rw [Bool.and_eq_true] at ht
    obtain ⟨he1,he2⟩:=ext_ok hg ht.1
    obtain ⟨τ,ha,hg2,hh2⟩:=head_ok' (s:=addX s (ext x') nx) hg.size hg.defers he1 he2 hg' hh' hm ht.2
    have:=ihb K Q hQ hK _ _ w' hg2 hh2 (hn x' hI τ)
    rw [← ha] at this
    exact this
   | _=>exact hK _ _ _ _ hg' hh' hk
  ·exact plain _ h
 |cond c a b iha ihb =>
  intro K Q hQ hK s t w hg hh h
  simp only [codeV] at h
  split at h
  ·rename_i hc;exact wp_cond_true hc (iha K Q hQ hK s t w hg hh h)
  ·rename_i hc;exact wp_cond_false hc (ihb K Q hQ hK s t w hg hh h)
  ·cases h
 |block id a iha =>
  intro K Q hQ hK s t w hg hh h
  refine wp_block (iha _ _ (panic_block hQ) ?_ s t w hg hh h)
  intro e s t w hg hh h
  cases e with
  |exit id' =>
   simp only [Exit.inBlock]
   cases hb:Nat.beq id' id
   ·simp only [hb,cond_false] at h
    rw [if_neg (fun e=>by rw [e] at hb;simp at hb)]
    exact hK _ _ _ _ hg hh h
   ·simp only [hb,cond_true] at h
    rw [if_pos (Nat.eq_of_beq_eq_true hb)]
    exact hK _ _ _ _ hg hh h
  | _=>exact hK _ _ _ _ hg hh h
 |exit id=>intro K Q hQ hK s t w hg hh h;exact wp_exit (hK _ _ _ _ hg hh h)
 |ret=>intro K Q hQ hK s t w hg hh h;exact wp_ret (hK _ _ _ _ hg hh h)
 |loop a iha =>
  intro K Q hQ hK s t w hg hh h
  cases t<;>simp only [codeV] at h
  rotate_left
  ·rename_i n t
   have key:∀ n s t w,Good w0 N s→Hold w0 s w→roundsV (codeV P w0 a) K n s t→Code.rounds P a Q n s.act w:=by
    intro n
    induction n with
    |zero=>intro s t w _ _ h;exact h.elim
    |succ n ih =>
     intro s t w hg hh h
     rw [rounds_succ]
     refine iha _ _ (panic_then hQ) ?_ s t w hg hh h
     intro e s' t' w' hg' hh' hk
     cases e with
     |normal=>exact ih s' t' w' hg' hh' hk
     | _=>exact hK _ _ _ _ hg' hh' hk
   exact wp_loop_rounds n (key n s t w hg hh h)
  rename_i α set mem keep pre dyn I μ x0 t
  obtain ⟨hpre,h0,hm,ht,hr⟩:=h
  have hnew:=hpre w hh.below hh.all
  obtain ⟨τ,ha,hg0,hh0⟩:=head_ok hg (facts_good hg hh (X:=fun _=>False) (fun k hk=>hk.elim) hnew) (facts_hold hh hh.below.size (fun k hk=>hk.elim) hnew) hm ht
  refine wp_loop_by (fun x a w=>I x∧∃ τ,a=(headS s τ keep (withP s (set x)) (mem x) (dyn x)).act∧Good w0 N (headS s τ keep (withP s (set x)) (mem x) (dyn x))∧Hold w0 (headS s τ keep (withP s (set x)) (mem x) (dyn x)) w) μ (x0:=x0) ⟨h0,τ,ha,hg0,hh0⟩ ?_
  rintro x _ w' ⟨hI,τ',rfl,hg',hh'⟩
  refine iha _ _ (panic_then hQ) ?_ _ (t x) w' hg' hh' (hr x hI τ')
  intro e s' t' w'' hg'' hh'' hk
  cases e with
  |normal =>
   obtain ⟨x',hI',hl,hm',ht'⟩:=hk
   obtain ⟨τ2,ha2,hg2,hh2⟩:=head_ok hg hg'' hh'' hm' ht'
   exact ⟨x',⟨hI',τ2,ha2,hg2,hh2⟩,hl⟩
  | _=>exact hK _ _ _ _ hg'' hh'' hk
 | _=>intro K Q hQ hK s t w hg hh h;cases t<;>simp [codeV] at h
theorem res_one {s:St0} (hg:Good w0 N s) {w:World} (hh:Hold w0 s w) {a:Tmp} {T:TypeId} {id off:Nat} {b:Blk} {v:Value} (ht:findT s.tags a=some (id,off)) (hf:findB s.blks id=some b) (hl:loadB P b T off=some v):(do loadVar T (← asAddr (s.act.tmps.getD a undef)):Sem Value).run P w = .ok v w:=by
 obtain ⟨b',hf',hp⟩:=hg.tag a id off ht
 rw [hf] at hf'
 obtain rfl:=Option.some.inj hf'
 have:=loadB_run hl (fun i u hu=>(hh.blk id b hf).cell hh.below hh.all hu)
 simp [hp,asAddr,this]
def resOne (tmps:Array Value):ResultVar→Sem Value
 | .tmp t=>pure (tmps.getD t undef)
 | .cell a t=>do loadVar t (← asAddr (tmps.getD a undef))
theorem resV_run {s:St0} (hg:Good w0 N s) {w:World} (hh:Hold w0 s w):∀ (l:List ResultVar) (vs:List Value),resV P s l=some vs→(l.mapM (resOne s.act.tmps)).run P w=Result.ok vs w
 | [],vs,h=>by simp [resV] at h;subst h;simp [Sem.run]
 | .tmp t :: l,vs,h=>by
  simp only [resV] at h
  split at h
  ·rename_i us hu
   simp only [Option.some.injEq] at h
   subst h
   have:=resV_run hg hh l us hu
   simp only [List.mapM_cons,resOne,Sem.run_bind,this,Result.andThen_ok,Sem.run_pure]
  ·cases h
 | .cell a T :: l,vs,h=>by
  simp only [resV] at h
  split at h
  ·rename_i id off ht
   split at h
   ·rename_i b hf
    split at h
    ·rename_i v us hl hu
     simp only [Option.some.injEq] at h
     subst h
     have h1:=resV_run hg hh l us hu
     have h2:=res_one hg hh ht hf hl
     have h3:(resOne s.act.tmps (.cell a T)).run P w = .ok v w:=h2
     simp only [List.mapM_cons,Sem.run_bind,h1,h3,Result.andThen_ok,Sem.run_pure]
    ·cases h
   ·cases h
  ·cases h
theorem results_run {fn:Func} {s:St0} (hg:Good w0 N s) {w:World} (hh:Hold w0 s w) {vs:List Value} (h:resV P s fn.results.toList=some vs):(results fn s.act.tmps).run P w = .ok (packV vs) w:=by
 have h1:=resV_run hg hh _ _ h
 have h2:(fn.results.mapM (resOne s.act.tmps)).run P w = .ok vs.toArray w:=by
  rw [Array.mapM_eq_mapM_toList]
  simp [Sem.run_bind,h1]
 have h3:results fn s.act.tmps=(fn.results.mapM (resOne s.act.tmps) >>= fun vs=>pure (if h:vs.size=1 then vs[0] else .tuple vs)):=rfl
 rw [h3,Sem.run_bind,h2]
 simp only [Result.andThen_ok,Sem.run_pure]
 congr 1
 match vs with
 | []=>rfl
 | [v]=>rfl
 |v :: u :: vs=>simp [packV]
theorem ret_spec {fn:Func} {Post:Value→List Fact→Prop} {e:Exit} {s:St0} {t:Tree} (h:retV P fn Post e s t):(e = .normal∨e = .ret)∧s.act.defers=[]∧∃ vs,resV P s fn.results.toList=some vs∧Post (packV vs) s.dyn:=by
 cases e with
 |normal =>
  simp only [retV] at h
  split at h
  ·rename_i hd hr;exact ⟨.inl rfl,hd,_,hr,h⟩
  ·cases h
 |ret =>
  simp only [retV] at h
  split at h
  ·rename_i hd hr;exact ⟨.inr rfl,hd,_,hr,h⟩
  ·cases h
 | _=>simp [retV] at h
theorem funV_sound {f:FuncId} {fn:Func} {args:Array Value} {Post:Value→List Fact→Prop} {t:Tree} {w:World} (hf:P.funcs[f]?=some fn) (h:funV P w fn args Post t) :
  Calls P f args w fun e w' => ∃ v s' N,e = .returned v∧Post v s'.dyn∧Hold w s' w'∧Good w N s':=by
 unfold funV at h
 split at h
 ·rename_i c hc
  refine calls_of_wp hf hc ?_
  refine codeV_sound (N:=(args++Array.replicate (fn.ntmps - args.size) undef).size) c (retV P fn Post) _ (fun c a d v w hh=>by cases d<;>exact hh) ?_ ⟨{ tmps:=args++Array.replicate (fn.ntmps - args.size) undef,defers:=[] },[],[],0,[]⟩ t w ⟨rfl,rfl,fun _ _ _ _ h=>by simp [findB] at h,fun _ _ h=>by simp [findB] at h,fun _ _ _ h=>by simp [findT] at h,fun _ h=>(by cases h),fun _ h=>(by cases h),List.Pairwise.nil,List.Pairwise.nil⟩ ⟨Below.refl _ _,fun _ _ h=>by simp [findB] at h,trivial,fun _ h=>(by cases h)⟩ h
  intro e s t w' hg hh hk
  obtain ⟨he,hd,vs,hr,hp⟩:=ret_spec hk
  rcases he with rfl | rfl<;>exact ⟨hd,_,results_run hg hh hr,_,s,_,rfl,hp,hh,hg⟩
 ·cases h
theorem retX_spec {fn:Func} {Post:Value→St0→Prop} {e:Exit} {s:St0} {t:Tree} (h:retX P fn Post e s t):(e = .normal∨e = .ret)∧s.act.defers=[]∧∃ vs,resV P s fn.results.toList=some vs∧Post (packV vs) s:=by
 cases e with
 |normal =>
  simp only [retX] at h
  split at h
  ·rename_i hd hr;exact ⟨.inl rfl,hd,_,hr,h⟩
  ·cases h
 |ret =>
  simp only [retX] at h
  split at h
  ·rename_i hd hr;exact ⟨.inr rfl,hd,_,hr,h⟩
  ·cases h
 | _=>simp [retX] at h
theorem funX_sound {f:FuncId} {fn:Func} {args:Array Value} {tags:List (Nat × Option (Nat × Nat))} {blks:List (Nat × Blk)} {D:List Fact} {Post:Value→St0→Prop} {t:Tree} {w:World} (hf:P.funcs[f]?=some fn)
  (hg:Good w0 (args++Array.replicate (fn.ntmps - args.size) undef).size ⟨{ tmps:=args++Array.replicate (fn.ntmps - args.size) undef,defers:=[] },tags,blks,blks.length,D⟩) (hh:Hold w0 ⟨{ tmps:=args++Array.replicate (fn.ntmps - args.size) undef,defers:=[] },tags,blks,blks.length,D⟩ w) (h:funX P w0 fn args tags blks D Post t) :
  Calls P f args w fun e w' => ∃ v s' N,e = .returned v∧Post v s'∧Hold w0 s' w'∧Good w0 N s':=by
 unfold funX at h
 split at h
 ·rename_i c hc
  refine calls_of_wp hf hc ?_
  refine codeV_sound (N:=(args++Array.replicate (fn.ntmps - args.size) undef).size) c (retX P fn Post) _ (fun c a d v w hh=>by cases d<;>exact hh) ?_ _ t w hg hh h
  intro e s t w' hg hh hk
  obtain ⟨he,hd,vs,hr,hp⟩:=retX_spec hk
  rcases he with rfl | rfl<;>exact ⟨hd,_,results_run hg hh hr,_,s,_,rfl,hp,hh,hg⟩
 ·cases h
theorem calls_by {f:FuncId} {fn:Func} {args:Array Value} {r:Value} {t:Tree} {w:World} {X:Prop} (hf:P.funcs[f]?=some fn) (h:funV P w fn args (fun v _=>v=r) t=X) (hX:X) :
  Calls P f args w fun e w'=>e = .returned r∧Below w.heap.size w w' :=
 (funV_sound hf (by rw [h];exact hX)).mono (by rintro e w' ⟨v,s',_,rfl,rfl,hh,_⟩;exact ⟨rfl,hh.below⟩)
theorem turns_sub {D fs:List Fact} (h:fs.Sublist D):Turns w0 D fs:=fun h1 h2 =>
 ⟨fun f hf=>h1 f (h.subset hf),h2.sublist h,fun f hf k hk=>⟨f,h.subset hf,hk⟩,fun w _ ha=>All_iff.2 fun f hf=>All_iff.1 ha f (h.subset hf)⟩
theorem turns_idx {D fs:List Fact} (is:List Nat) (hn:is.Nodup) (h:is.map (fun i=>D[i]?)=fs.map some):Turns w0 D fs:=by
 intro h1 h2
 have hm:∀ f ∈ fs,f ∈ D:=fun f hf=>by
  have h3:some f ∈ fs.map some:=List.mem_map_of_mem hf
  rw [← h] at h3
  obtain ⟨i,_,hi⟩:=List.mem_map.1 h3
  exact List.mem_of_getElem? hi
 refine ⟨fun f hf=>h1 f (hm f hf),?_,fun f hf k hk=>⟨f,hm f hf,hk⟩,fun w _ ha=>All_iff.2 fun f hf=>All_iff.1 ha f (hm f hf)⟩
 have hl:is.length=fs.length:=by simpa using congrArg List.length h
 rw [List.pairwise_iff_getElem]
 intro i j hi hj hij k hk1 hk2
 have e:∀ (i:Nat) (hi:i < fs.length),D[is[i]'(by omega)]?=some fs[i]:=fun i hi=>by
  have h4:=congrArg (fun l=>l[i]?) h
  simpa [List.getElem?_eq_getElem hi,List.getElem?_eq_getElem (show i < is.length by omega)] using h4
 have hne:is[i]'(by omega)≠is[j]'(by omega):=fun he=>by
  have:=(List.pairwise_iff_getElem.1 hn) i j (by omega) (by omega) hij
  exact this he
 obtain ⟨a1,b1⟩:=List.getElem?_eq_some_iff.1 (e i hi)
 obtain ⟨a2,b2⟩:=List.getElem?_eq_some_iff.1 (e j hj)
 rcases Nat.lt_or_ge (is[i]'(by omega)) (is[j]'(by omega)) with hlt | hge
 ·exact (List.pairwise_iff_getElem.1 h2) _ _ a1 a2 hlt k (by rw [b1];exact hk1) (by rw [b2];exact hk2)
 ·exact (List.pairwise_iff_getElem.1 h2) _ _ a2 a1 (by omega) k (by rw [b2];exact hk2) (by rw [b1];exact hk1)
theorem calls_mem {f:FuncId} {fn:Func} {args:Array Value} {α:Type} {r:α→Value} {fs:α→List Fact} {t:Tree} {w:World} {X:Prop} (hf:P.funcs[f]?=some fn) (h:funV P w fn args (fun v dyn => ∃ x,v=r x∧Turns w dyn (fs x)) t=X) (hX:X) :
  Calls P f args w fun e w' => ∃ x,e = .returned (r x)∧Below w.heap.size w w'∧News (fun _=>False) w.heap.size (fs x) w' :=
 (funV_sound hf (by rw [h];exact hX)).mono (by
  rintro e w' ⟨v,s',_,rfl,⟨x,rfl,hs⟩,hh,hg⟩
  obtain ⟨t1,t2,t3,t4⟩:=hs hg.stable hg.apartF
  refine ⟨x,rfl,hh.below,t4 w' hh.below hh.all,fun f hf k hk=>?_,t2,t1⟩
  obtain ⟨g,hg1,hg2⟩:=t3 f hf k hk
  have:=hh.young g hg1 k hg2
  exact ⟨.inr this.1,this.2⟩)
def Concl (w:World) (dyn:List Fact) (Q:World→Prop):Prop :=
 ∀ w',Below w.heap.size w w'→All dyn w'→(∀ f ∈ dyn,∀ k,f.S k→w.heap.size≤k∧k < w'.heap.size)→Q w'
theorem calls_q {f:FuncId} {fn:Func} {args:Array Value} {α:Type} {r:α→Value} {Q:α→World→Prop} {t:Tree} {w:World} {X:Prop} (hf:P.funcs[f]?=some fn) (h:funV P w fn args (fun v dyn => ∃ x,v=r x∧Concl w dyn (Q x)) t=X) (hX:X) :
  Calls P f args w fun e w' => ∃ x,e = .returned (r x)∧Below w.heap.size w w'∧Q x w' :=
 (funV_sound hf (by rw [h];exact hX)).mono (by
  rintro e w' ⟨v,s',_,rfl,⟨x,rfl,hs⟩,hh,hg⟩
  exact ⟨x,rfl,hh.below,hs w' hh.below hh.all hh.young⟩)
theorem gives {D:List Fact} {f:FuncId} {args:Array Value} {r:Value} (h:∀ w,Calls P f args w fun e w'=>e = .returned r∧Below w.heap.size w w'):Gives P w0 D f args r:=fun w _ _=>h w
theorem gives_same {D:List Fact} {f:FuncId} {args:Array Value} {r:Value} (h:∀ w,Calls P f args w fun e w'=>e = .returned r∧w=w'):Gives P w0 D f args r :=
 fun w _ _=>(h w).mono (by rintro e w' ⟨rfl,rfl⟩;exact ⟨rfl,Below.refl _ _⟩)
def newOf (P:Program):Sem Value→Option (Array Value × TypeId × (Nat→Option Value))
 | .new (.cells cs e (0,0)) k=>some (cs,e,fun g=>still P (k g))
 | .program k=>newOf P (k P)
 | .mark _ k=>newOf P k
 | _=>none
theorem newOf_run:∀ {m:Sem Value} {cs:Array Value} {e:TypeId} {k:Nat→Option Value},newOf P m=some (cs,e,k)→∀ {w:World} {v:Value},k w.heap.size=some v→m.run P w = .ok v (w.alloc (.cells cs e))
 | .new (.cells cs e (0,0)) k,cs',e',k',h,w,v,hv=>by
  simp only [newOf,Option.some.injEq,Prod.mk.injEq] at h
  obtain ⟨rfl,rfl,rfl⟩:=h
  exact still_run hv (w.alloc (.cells cs e))
 | .program k,cs,e,k',h,w,v,hv=>by simp only [newOf] at h;simp only [Sem.run];exact newOf_run h hv
 | .mark _ k,cs,e,k',h,w,v,hv=>by simp only [newOf] at h;simp only [Sem.run];exact newOf_run h hv
 | .pure ..,_,_,_,h,_,_,_=>by simp [newOf] at h
 | .load ..,_,_,_,h,_,_,_=>by simp [newOf] at h
 | .store ..,_,_,_,h,_,_,_=>by simp [newOf] at h
 | .new (.cells _ _ (_+1,_)) _,_,_,_,h,_,_,_=>by simp [newOf] at h
 | .new (.cells _ _ (_,_+1)) _,_,_,_,h,_,_,_=>by simp [newOf] at h
 | .new (.map ..) _,_,_,_,h,_,_,_=>by simp [newOf] at h
 | .shape ..,_,_,_,h,_,_,_=>by simp [newOf] at h
 | .freeze ..,_,_,_,h,_,_,_=>by simp [newOf] at h
 | .frozen ..,_,_,_,h,_,_,_=>by simp [newOf] at h
 | .getObj ..,_,_,_,h,_,_,_=>by simp [newOf] at h
 | .setObj ..,_,_,_,h,_,_,_=>by simp [newOf] at h
 | .choose ..,_,_,_,h,_,_,_=>by simp [newOf] at h
 | .sys ..,_,_,_,h,_,_,_=>by simp [newOf] at h
 | .halt ..,_,_,_,h,_,_,_=>by simp [newOf] at h
end Go.Proofs.Ytcpahggkioagkaa
