/-
  VcM
-/
import Derived.Test.YtcpahggkioagkaaMvf08
import Derived.Test.YtcpahggkioagkaaMvf06
import Derived.Test.YtcpahggkioagkaaMvf02
import Derived.Deep.OwnRows
set_option linter.unusedVariables false
set_option linter.unusedSimpArgs false
namespace Go.Proofs.Ytcpahggkioagkaa
set_option maxRecDepth 20000
open Go.RowKit
variable {P:Program} {w0:World} {D:List Fact}
def ownF {α:Type} (R:Rd α) (size:Nat) (e:TypeId) (A:Option Addr) (n c:Nat) (xs:List α):Fact :=
 ⟨fun w=>OwnElems R size w 0 e (fun _=>False) A n c xs,fun k=>(Value.slice A n c).ownBlock=some k⟩
theorem ownF_stable {α:Type} {R:Rd α} (hR:Keeps R) {size:Nat} {e:TypeId} {A:Option Addr} {n c:Nat} {xs:List α} : Stable (ownF R size e A n c xs):=fun w w' h hf=>by
 obtain ⟨css,h1,h2,h3⟩:=hf
 refine ⟨css,⟨h1.1,?_⟩,h2.keep hR (fun _ _ h=>h.elim) (fun _ h=>h),h3⟩
 rcases h1.2 with h0 | ⟨g,cap,cur,hv,h4,h5,h6⟩
 ·exact .inl h0
 ·refine .inr ⟨g,cap,cur,hv,h4,(h g ?_).trans h5,h6⟩
  simp only [ownF]
  rw [hv];rfl
theorem news_one {X:Nat→Prop} {lo:Nat} {f:Fact} {w:World} (h:f.F w) (hs:Stable f) (hy:∀ k,f.S k→(X k∨lo≤k)∧k < w.heap.size):News X lo [f] w :=
 ⟨⟨h,trivial⟩,fun f' hf k hk=>by simp at hf;subst hf;exact hy k hk,by simp,fun f' hf=>by simp at hf;subst hf;exact hs⟩
theorem news_nil {X:Nat→Prop} {lo:Nat} {w:World} : News X lo [] w:=⟨trivial,fun _ h=>(by cases h),List.Pairwise.nil,fun _ h=>(by cases h)⟩
theorem frame_alloc (w:World) (o:Obj) (X:Nat→Prop):Frame0 X w (w.alloc o):=⟨rfl,rfl,rfl,by simp,fun k hk _=>Below.heap_alloc w o k hk⟩
theorem build_step {m:Sem Value} {cs:Array Value} {e:TypeId} {k:Nat→Option Value} {r:Nat→Value} (h:newOf P m=some (cs,e,k)) (hk:∀ g,k g=some (r g)):StepM P w0 D m (fun _=>False) Nat r (fun g=>[cellsF g cs e]) :=
 fun w _ _=>⟨w.heap.size,w.alloc (.cells cs e),newOf_run h (hk _),frame_alloc _ _ _,news_one (heap_alloc_new w (.cells cs e)) (cellsF_stable _ _ _) (fun k hk=>by simp only [cellsF] at hk;subst hk;exact ⟨.inr (Nat.le_refl _),by simp⟩)⟩
theorem each_any {α:Type} {R:Rd α} {size:Nat} {w:World} {S S' : Nat→Prop} (hF:∀ {cs x},R w S cs x→R w S' cs x):∀ {css:List (List Value)} {ys:List α},Each R size w S css ys→Each R size w S' css ys
 | [],[],_=>trivial
 | [],_ :: _,h=>h.elim
 | _ :: _,[],h=>h.elim
 | _ :: _,_ :: _,h=>⟨h.1,hF h.2.1,each_any hF h.2.2⟩
theorem append_core {α:Type} {R:Rd α} (hR:Keeps R) (hL:Leaf R) {size:Nat} (hsz:0 < size) {t ty e:TypeId} {z:Value} {bytes:Nat} (ht:P.underlying t=some (.slice e)) (hinfo:(P.info? e).map (fun i=>(i.zero,i.size,i.bytes))=some (some z,size,bytes)) (hzs:z.cells.size=size)
  {A:Option Addr} {n c:Nat} {xs:List α} {A2:Option Addr} {m c2:Nat} {ys:List α} {X:Nat→Prop} (hX:∀ k,(Value.slice A n c).ownBlock=some k→X k)
  (hrow:∀ w,All D w→OwnElems R size w 0 e (fun _=>False) A n c xs) (hsrc:∀ w,Below w0.heap.size w0 w→All D w→∃ S,Elems R size w S A2 ys) (hm:ys.length=m) (h63:n+m≤maxLen) (hbytes:(n+m) * bytes≤140737488355328) (hF:∀ {w S cs x},R w S cs x→R w (fun _=>False) cs x) :
  StepM P w0 D (Builtin.append_ #[t,t] ty #[.slice A n c,.slice A2 m c2]) X (Option Addr × Nat) (fun x=>.slice x.1 (n+m) x.2) (fun x=>[ownF R size e x.1 (n+m) x.2 (xs++ys)]):=by
 intro w hw ha
 obtain ⟨S,hs⟩:=hsrc w hw ha
 obtain ⟨css,he,hc⟩:=Elems.each hs
 have he2:Each R size w (fun _=>False) css ys:=each_any hF he
 obtain ⟨A',c',w',hrun,hown,hg,hat⟩:=run_append_elems (P:=P) hR hL hsz 0 t ty e z bytes ht hinfo hzs (hrow w ha) (S3:=fun _=>False) (A2:=A2) (c2:=c2) he2 (fun h0=>by
  obtain ⟨b,off,e1,_,e2⟩:=hc (by rw [hm];exact h0)
  exact ⟨b,off,e1,e2⟩) hm (fun _ h=>h) (fun _ h=>h.elim) h63 hbytes (Nat.zero_le _)
 refine ⟨(A',c'),w',hrun,⟨hg.os,hg.tape,hg.output,hg.size,fun k hk hx=>hg.block k hk (fun e=>hx (hX k e.symm))⟩,news_one hown (ownF_stable hR) (fun k hk=>?_)⟩
 simp only [ownF] at hk
 refine ⟨?_,(hown.block k hk).2⟩
 rcases hat with h | h
 ·exact .inl (hX k (by rw [← h];exact hk))
 ·rw [hk] at h;exact .inr (by have:=Option.some.inj h;omega)
theorem row_at {α:Type} {R:Rd α} {size:Nat} {e:TypeId} {A:Option Addr} {n c:Nat} {xs:List α} {j:Nat} (h:D[j]?=some (ownF R size e A n c xs)):∀ w,All D w→OwnElems R size w 0 e (fun _=>False) A n c xs :=
 fun w ha=>All_iff.1 ha _ (List.mem_of_getElem? h)
theorem block_at {g:Nat} {cs:Array Value} {e:TypeId} {j:Nat} (h:D[j]?=some (cellsF g cs e)):∀ w,All D w→w.heap[g]?=some (.cells cs e (0,0)) :=
 fun w ha=>All_iff.1 ha _ (List.mem_of_getElem? h)
theorem one_elem {α:Type} {R:Rd α} {size g:Nat} {cs:Array Value} {e:TypeId} {w:World} {x:α} (h:w.heap[g]?=some (.cells cs e (0,0))) (hl:cs.size=size) (hR:R w (fun _=>True) cs.toList x):∃ S,Elems R size w S (some ⟨g,0,none⟩) [x] :=
 ⟨fun _=>True,fun _=>⟨g,0,rfl,trivial,fun j y hj=>by
  have hj0:j=0:=by
   rcases Nat.eq_zero_or_pos j with h0 | h0
   ·exact h0
   ·rw [List.getElem?_eq_none (by simp;omega)] at hj;cases hj
  subst hj0
  simp at hj
  subst hj
  exact ⟨cs.toList,by simpa using hl,fun i c hc=>by rw [Nat.zero_mul,Nat.zero_add];exact (block_cell h i c (by simpa using hc)).1,hR⟩⟩⟩
def blkA (A:Option Addr):Nat:=match A with | some a=>a.block | none=>0
def offA (A:Option Addr):Nat:=match A with | some a=>a.off | none=>0
theorem index_run {t e:TypeId} (ht:P.underlying t=some (.slice e)) {size bytes:Nat} {z:Value} (hinfo:(P.info? e).map (fun i=>(i.zero,i.size,i.bytes))=some (some z,size,bytes)) {b off n c j:Nat} {k:IntKind} (hj:j < n) (w:World) :
  (Instr.indexAt t (.slice (some ⟨b,off,none⟩) n c) (.int k (j:Int))).run P w = .ok (.pointer (some ⟨b,off+j * size,none⟩)) w:=by
 obtain ⟨i,hi,hz,hsz,hby⟩:=info_parts hinfo
 have he:P.elem t=e:=by simp [Program.elem,ht]
 rw [run_indexAt_slice (P:=P) w t ⟨b,off,none⟩ n c k j (by rw [he];exact ht),if_pos ⟨by omega,by omega⟩,he]
 simp [sizeOf,typeInfo,hi,hsz,Addr.add_mid]
section
variable {α:Type} {R:Rd α} {size:Nat} {tc:α→Array Value}
theorem elem_at {w:World} {S:Nat→Prop} {A:Option Addr} {xs:List α} (hR:∀ (w:World) (S:Nat→Prop) (cs:List Value) (x:α),R w S cs x→cs=(tc x).toList) (h:Elems R size w S A xs) {j:Nat} {x:α} (hx:xs[j]?=some x):∃ b off,A=some ⟨b,off,none⟩∧S b∧∀ (i:Nat) (v:Value),(tc x)[i]?=some v→w.cell? ⟨b,off+j * size+i,none⟩=some v:=by
 obtain ⟨b,off,e,hb,hc⟩:=h (by have:=(List.getElem?_eq_some_iff.1 hx).1;omega)
 obtain ⟨cs,hl,hcs,hr⟩:=hc j x hx
 refine ⟨b,off,e,hb,fun i v hv=>hcs i v ?_⟩
 rw [hR _ _ _ _ hr]
 simpa using hv
theorem low_index {t e:TypeId} (ht:P.underlying t=some (.slice e)) {bytes:Nat} {z:Value} (hinfo:(P.info? e).map (fun i=>(i.zero,i.size,i.bytes))=some (some z,size,bytes)) (hR:∀ (w:World) (S:Nat→Prop) (cs:List Value) (x:α),R w S cs x→cs=(tc x).toList) {B:Nat} (hB:B≤w0.heap.size) {A:Option Addr} {xs:List α} (h:Elems R size w0 (Lt B) A xs) {n c:Nat} (hn:xs.length=n) {j:Nat} (hj:j < n) {k:IntKind} :
  Yields0 P w0 D (Instr.indexAt t (.slice A n c) (.int k (j:Int))) (.pointer (some ⟨blkA A,offA A+j * size,none⟩)):=by
 obtain ⟨b,off,rfl,hb,_⟩:=elem_at hR h (List.getElem?_eq_getElem (show j < xs.length by omega))
 exact fun w _ _=>index_run ht hinfo hj w
theorem low_reads (hR:∀ (w:World) (S:Nat→Prop) (cs:List Value) (x:α),R w S cs x→cs=(tc x).toList) {B:Nat} (hB:B≤w0.heap.size) {A:Option Addr} {xs:List α} (h:Elems R size w0 (Lt B) A xs) {j:Nat} {x:α} (hx:xs[j]?=some x):Reads0 w0 D (blkA A) (offA A+j * size) (tc x):=by
 obtain ⟨b,off,rfl,hb,hc⟩:=elem_at hR h hx
 intro w hw _ i v hv
 exact (hw.cell (p:=⟨b,off+j * size+i,none⟩) (show b < w0.heap.size from Nat.lt_of_lt_of_le hb hB)).trans (hc i v hv)
theorem own_index {t e:TypeId} (ht:P.underlying t=some (.slice e)) {bytes:Nat} {z:Value} (hinfo:(P.info? e).map (fun i=>(i.zero,i.size,i.bytes))=some (some z,size,bytes)) {A:Option Addr} {n c:Nat} {xs:List α} (h:∀ w,All D w→OwnElems R size w 0 e (fun _=>False) A n c xs) {j:Nat} (hj:j < n) {k:IntKind} :
  Yields0 P w0 D (Instr.indexAt t (.slice A n c) (.int k (j:Int))) (.pointer (some ⟨blkA A,offA A+j * size,none⟩)):=by
 intro w hw ha
 obtain ⟨g,rfl,_,_⟩:=(h w ha).where_ (by omega)
 exact index_run ht hinfo hj w
theorem own_reads (hK:Keeps R) (hs0:0 < size) (hR:∀ (w:World) (S:Nat→Prop) (cs:List Value) (x:α),R w S cs x→cs=(tc x).toList) {e:TypeId} {A:Option Addr} {n c:Nat} {xs:List α} (h:∀ w,All D w→OwnElems R size w 0 e (fun _=>False) A n c xs) {j:Nat} {x:α} (hx:xs[j]?=some x):Reads0 w0 D (blkA A) (offA A+j * size) (tc x):=by
 intro w hw ha i v hv
 obtain ⟨b,off,rfl,_,hc⟩:=elem_at hR ((h w ha).reads hK hs0) hx
 exact hc i v hv
end
theorem at_getD {α:Type} {xs:List α} {j:Nat} {z:α} (h:j < xs.length):xs[j]?=some (xs.getD j z):=by simp [List.getD,List.getElem?_eq_getElem h]
theorem wrap_is {x y:Int} (h:x=y) (h1 : -9223372036854775808≤y) (h2:y≤9223372036854775807):(Value.int .i64 (IntKind.i64.wrap x)) = .int .i64 y:=by
 subst h
 rw [IntKind.wrap_i64]
 congr 1
 omega
theorem store_core {α:Type} {R:Rd α} (hK:Keeps R) (hL:Leaf R) {size:Nat} {e T:TypeId} {A:Option Addr} {n c:Nat} {xs:List α} {j:Nat} {x:α} {v:Value} {vs:List Value} (hrow:∀ w,All D w→OwnElems R size w 0 e (fun _=>False) A n c xs) (hj:j < n) (hv:v.cells=vs.toArray) (hl:vs.length=size)
  (hr:∀ w,R w (fun _=>False) vs x) (hi:(P.info? T).map (·.size)=some size) :
  StepU P w0 D (Instr.storeAt T (.pointer (some ⟨blkA A,offA A+j * size,none⟩)) v) (ownF R size e A n c xs).S Unit (fun _=>undef) (fun _=>[ownF R size e A n c (xs.set j x)]):=by
 intro w hw ha
 obtain ⟨g,rfl,_,hg⟩:=(hrow w ha).where_ (by omega)
 obtain ⟨cur,hcur,hcs⟩:=(hrow w ha).cur
 have hle:j * size+size≤n * size:=by
  have:(j+1) * size≤n * size:=Nat.mul_le_mul_right _ (by omega)
  rw [Nat.succ_mul] at this;exact this
 have h1:vs.toArray.all (·.oneCell')=true:=all_oneCell_toArray (hL w _ vs x (hr w))
 have he:Instr.storeAt T (.pointer (some ⟨blkA (some ⟨g,0,none⟩),offA (some ⟨g,0,none⟩)+j * size,none⟩)) v=Instr.storeAt T (.pointer (some ⟨g,j * size,none⟩)) (.agg vs.toArray):=by
  simp only [Instr.storeAt,storeVar,hv,blkA,offA,Nat.zero_add]
  rfl
 refine ⟨(),w.setCells g (j * size) vs,?_,rfl,⟨?_,?_,?_,?_,?_⟩,news_one ?_ (ownF_stable hK) (fun k hk=>?_)⟩
 ·rw [he]
  exact run_store_elem T hcur (by simpa using hl) (by omega) hi h1
 ·exact (setCells_below (Nat.zero_le _) vs _ w (Below.refl 0 w)).os
 ·exact (setCells_below (Nat.zero_le _) vs _ w (Below.refl 0 w)).tape
 ·exact (setCells_below (Nat.zero_le _) vs _ w (Below.refl 0 w)).output
 ·rw [setCells_size];exact Nat.le_refl _
 ·intro k _ hk
  refine setCells_other (fun e=>hk ?_) _ _ _
  subst e
  simp only [ownF]
  obtain ⟨css,h1,h2,h3⟩:=hrow w ha
  obtain ⟨g',cap',hv',_,_⟩:=World.ownsRow.form h1 (by omega)
  rw [hv']
  injection hv' with e1 _ e2
  injection e1 with e1
  injection e1 with e1
  subst e1
  rfl
 ·refine (hrow w ha).put hK hj hl (hr w) _ (fun cur' hc'=>?_)
  rw [hcur] at hc'
  injection hc' with hc'
  injection hc' with hc'
  subst hc'
  have:=setCells_row (T:=e) (g:=g) vs (j * size) w cur.toList (by simpa using hcur) (by simp;omega)
  rw [hl] at this
  exact this
 ·refine ⟨.inl hk,?_⟩
  rw [setCells_size]
  exact ((hrow w ha).block k hk).2
theorem build_step2 {m:Sem Value} {cs:Array Value} {e:TypeId} {r:Nat→Value} (h:(newOf P m).map (fun x=>(x.1,x.2.1))=some (cs,e)) (hk:∀ g,(newOf P m).bind (fun x=>x.2.2 g)=some (r g)):StepM P w0 D m (fun _=>False) Nat r (fun g=>[cellsF g cs e]):=by
 obtain ⟨⟨cs',e',k⟩,h1,h2⟩:=Option.map_eq_some_iff.1 h
 simp only [Prod.mk.injEq] at h2
 obtain ⟨rfl,rfl⟩:=h2
 exact build_step h1 (fun g=>by have:=hk g;rw [h1] at this;exact this)
theorem low_keep {α:Type} {R:Rd α} (hK:Keeps R) {size:Nat} {A:Option Addr} {xs:List α} {B:Nat} (hB:B≤w0.heap.size) (h:Elems R size w0 (Lt B) A xs) {w:World} (hw:Below w0.heap.size w0 w):Elems R size w (Lt B) A xs :=
 h.keep hK (fun b o hb=>hw.cell (p:=⟨b,o,none⟩) (Nat.lt_of_lt_of_le hb hB)) (fun _ h=>h)
theorem step_to2 {m:Sem Value} {X:Nat→Prop} {α:Type} {R:Rd α} {size n k:Nat} {e:TypeId} {xs ys:List α} (hn:n=k) (h:xs=ys) (hs:StepM P w0 D m X (Option Addr × Nat) (fun x=>.slice x.1 n x.2) (fun x=>[ownF R size e x.1 n x.2 xs])):StepM P w0 D m X (Option Addr × Nat) (fun x=>.slice x.1 k x.2) (fun x=>[ownF R size e x.1 k x.2 ys]):=by
 subst hn h;exact hs
theorem step_to {m:Sem Unit} {X:Nat→Prop} {r:Unit→Value} {α:Type} {R:Rd α} {size n c:Nat} {e:TypeId} {A:Option Addr} {xs ys:List α} (h:xs=ys) (hs:StepU P w0 D m X Unit r (fun _=>[ownF R size e A n c xs])):StepU P w0 D m X Unit r (fun _=>[ownF R size e A n c ys]):=h▸hs
theorem size_of_info {T:TypeId} {z:Value} {size bytes:Nat} (h:(P.info? T).map (fun i=>(i.zero,i.size,i.bytes))=some (some z,size,bytes)):(P.info? T).map (·.size)=some size:=by
 obtain ⟨i,hi,hz⟩:=Option.map_eq_some_iff.1 h
 simp only [Prod.mk.injEq] at hz
 rw [hi];simp [hz.2.1]
theorem store_agg {α:Type} {R:Rd α} (hK:Keeps R) (hL:Leaf R) {size bytes:Nat} {z:Value} {e T:TypeId} (hi:(P.info? T).map (fun i=>(i.zero,i.size,i.bytes))=some (some z,size,bytes)) {A:Option Addr} {n c:Nat} {xs:List α} {j:Nat} {x:α} {cs:Array Value} (hrow:∀ w,All D w→OwnElems R size w 0 e (fun _=>False) A n c xs) (hj:j < n) (hl:cs.size=size)
  (hr:∀ w,R w (fun _=>False) cs.toList x) :
  StepU P w0 D (Instr.storeAt T (.pointer (some ⟨blkA A,offA A+j * size,none⟩)) (.agg cs)) (ownF R size e A n c xs).S Unit (fun _=>undef) (fun _=>[ownF R size e A n c (xs.set j x)]) :=
 store_core hK hL (vs:=cs.toList) hrow hj rfl (by simpa using hl) hr (size_of_info hi)
theorem build_none {α:Type} {R:Rd α} (hK:Keeps R) {size:Nat} {m:Sem Value} {e:TypeId} (h:(newOf P m).map (fun x=>(x.1,x.2.1))=some (#[],e)) (hk:∀ g,(newOf P m).bind (fun x=>x.2.2 g)=some (.slice (some ⟨g,0,none⟩) 0 0)) :
  StepM P w0 D m (fun _=>False) Nat (fun g=>.slice (some ⟨g,0,none⟩) 0 0) (fun g=>[ownF R size e (some ⟨g,0,none⟩) 0 0 ([]:List α)]):=by
 intro w hw ha
 obtain ⟨x,w',h1,h2,h3⟩:=build_step2 (w0:=w0) (D:=D) h hk w hw ha
 have hb:=h3.all.1
 simp only [cellsF] at hb
 have hy:=h3.young (cellsF x #[] e) (by simp) x rfl
 refine ⟨x,w',h1,h2,news_one ?_ (ownF_stable hK) (fun k hk=>?_)⟩
 ·exact ⟨[],⟨by simp,.inr ⟨x,0,#[],rfl,Nat.zero_le _,hb,by omega,by unfold maxLen;omega,by simp,by simp⟩⟩,trivial,rfl⟩
 ·simp only [ownF,Value.ownBlock,Option.some.injEq] at hk
  subst hk;exact hy
def Agree (S:Nat→Prop) (w w' : World):Prop := ∀ k,S k→w'.heap[k]?=w.heap[k]?
theorem Agree.alike {S:Nat→Prop} {w w' : World} (h:Agree S w w'):Alike S w w':=fun b o hb=>World.cell?_of_block (h b hb)
def poolF (W:World) (Pr:Nat→Prop):Fact:=⟨fun w => ∀ k,Pr k→w.heap[k]?=W.heap[k]?,Pr⟩
theorem poolF_stable (W:World) (Pr:Nat→Prop):Stable (poolF W Pr):=fun w w' h hf k hk=>(h k hk).trans (hf k hk)
def Keeps3 {β:Type} (R:World→(Nat→Prop)→β→Prop):Prop := ∀ w w' S S' b,R w S b→Agree S w w'→(∀ k,S k→S' k)→R w' S' b
def Fixed (w0:World) (D:List Fact) (S:Nat→Prop) (W:World):Prop := ∀ w,Below w0.heap.size w0 w→All D w→Agree S W w∧∀ k,S k→k < w.heap.size
theorem fixed_low {S:Nat→Prop} (h:∀ k,S k→k < w0.heap.size):Fixed w0 D S w0:=fun w hw _=>⟨fun k hk=>hw.block k (h k hk),fun k hk=>Nat.lt_of_lt_of_le (h k hk) hw.size⟩
abbrev Dat {β:Type} (R:World→(Nat→Prop)→β→Prop) (S:Nat→Prop) (W:World):Type:={ x:World × (Nat→Prop) × β // R x.1 (fun k=>S k∨x.2.1 k) x.2.2∧Agree S W x.1∧∀ k,x.2.1 k→k < x.1.heap.size }
theorem gives_dat {β:Type} {R:World→(Nat→Prop)→β→Prop} {S:Nat→Prop} {W:World} {f:FuncId} {args:Array Value} {r:β→Value} (hd:Fixed w0 D S W)
  (hc:∀ w,Below w0.heap.size w0 w→All D w→Calls P f args w fun e w' => ∃ b,e = .returned (r b)∧Below w.heap.size w w'∧R w' (fun k=>S k∨(w.heap.size≤k∧k < w'.heap.size)) b) :
  GivesM P w0 D f args (Dat R S W) (fun x=>r x.1.2.2) (fun x=>[poolF x.1.1 x.1.2.1]):=fun w hw ha=>(hc w hw ha).mono (by
 rintro e w' ⟨b,rfl,hb,hR⟩
 obtain ⟨h1,h2⟩:=hd w hw ha
 refine ⟨⟨(w',(fun k=>w.heap.size≤k∧k < w'.heap.size),b),hR,fun k hk=>(hb.block k (h2 k hk)).trans (h1 k hk),fun k hk=>hk.2⟩,rfl,hb,news_one (fun k _=>rfl) (poolF_stable _ _) (fun k hk=>⟨.inr hk.1,hk.2⟩)⟩)
theorem Dat.later {β:Type} {R:World→(Nat→Prop)→β→Prop} (hK:Keeps3 R) {S:Nat→Prop} {W:World} (x:Dat R S W) {w:World} (hS:Agree S W w) (hp:(poolF x.1.1 x.1.2.1).F w):R w (fun k=>S k∨x.1.2.1 k) x.1.2.2 :=
 hK _ _ _ _ _ x.2.1 (fun k hk=>by
  rcases hk with hk | hk
  ·exact (hS k hk).trans (x.2.2.1 k hk).symm
  ·exact hp k hk) (fun _ h=>h)
theorem pool_at {W:World} {Pr:Nat→Prop} {j:Nat} {w:World} (h:D[j]?=some (poolF W Pr)) (ha:All D w):(poolF W Pr).F w:=All_iff.1 ha _ (List.mem_of_getElem? h)
theorem own_new {α:Type} {R:Rd α} (hK:Keeps R) {size:Nat} (hs:0 < size) {e:TypeId} {A:Option Addr} {n c:Nat} {xs:List α} {w:World} {S:Nat→Prop} (h:OwnElems R size w 0 e (fun _=>False) A n c xs) (hS:∀ k,(ownF R size e A n c xs).S k→S k) (hF:∀ {S S' : Nat→Prop} {cs:List Value} {x:α},R w S cs x→R w S' cs x):Elems R size w S A xs:=fun h0=>by
 have hl:=h.len
 obtain ⟨g,rfl,_,_⟩:=h.where_ (by omega)
 obtain ⟨b,off,e,hb,hc⟩:=h.reads hK hs h0
 injection e with e
 injection e with e1 e2
 subst e1 e2
 exact ⟨_,_,rfl,hS _ rfl,fun j x hx=>by
  obtain ⟨cs,h1,h2,h3⟩:=hc j x hx
  exact ⟨cs,h1,h2,hF h3⟩⟩
theorem index_at {T:TypeId} {v:Value} {x:Int} {j:Nat} {k:IntKind} {r:Value} (hx:x=(j:Int)) (h:Yields0 P w0 D (Instr.indexAt T v (.int k (j:Int))) r):Yields0 P w0 D (Instr.indexAt T v (.int k x)) r:=by
 subst hx;exact h
def shapeF {α:Type} (R:Rd α) (size:Nat) (e:TypeId) (A:Option Addr) (n c:Nat):Fact :=
 ⟨fun w => ∃ xs:List α,OwnElems R size w 0 e (fun _=>False) A n c xs,fun k=>(Value.slice A n c).ownBlock=some k⟩
theorem shape_index {α:Type} {R:Rd α} {size:Nat} {t e:TypeId} (ht:P.underlying t=some (.slice e)) {bytes:Nat} {z:Value} (hinfo:(P.info? e).map (fun i=>(i.zero,i.size,i.bytes))=some (some z,size,bytes)) {A:Option Addr} {n c:Nat} {i:Nat} (h:D[i]?=some (shapeF R size e A n c)) {j:Nat} (hj:j < n) {k:IntKind} :
  Yields0 P w0 D (Instr.indexAt t (.slice A n c) (.int k (j:Int))) (.pointer (some ⟨blkA A,offA A+j * size,none⟩)):=by
 intro w hw ha
 obtain ⟨xs,hx⟩:=All_iff.1 ha _ (List.mem_of_getElem? h)
 obtain ⟨g,rfl,_,_⟩:=hx.where_ (by omega)
 exact index_run ht hinfo hj w
theorem run_loadAt_cell {w:World} {T:TypeId} {k:IntKind} (hu:P.underlying T=some (.int k)) {a:Addr} {v:Value} (hc:w.cell? a=some v):(Instr.loadAt T (.pointer (some a))).run P w = .ok v w:=by
 simp only [Instr.loadAt,Instr.sureAddr,Sem.run_bind,Sem.run_pure,Result.andThen_ok]
 simp [loadVar,isAgg,run_underlying hu,Sem.run_bind,Result.andThen_ok,TypeDesc.isRow,hc]
theorem own_load {α:Type} {R:Rd α} {size:Nat} {tc:α→Array Value} (hK:Keeps R) (hs0:0 < size) (hR:∀ (w:World) (S:Nat→Prop) (cs:List Value) (x:α),R w S cs x→cs=(tc x).toList) {e T:TypeId} {k:IntKind} (hu:P.underlying T=some (.int k)) {A:Option Addr} {n c:Nat} {xs:List α} (h:∀ w,All D w→OwnElems R size w 0 e (fun _=>False) A n c xs) {j:Nat} {x:α} (hx:xs[j]?=some x) {off:Nat} {v:Value} (hv:(tc x)[off]?=some v) :
  Yields0 P w0 D (Instr.loadAt T (.pointer (some ⟨blkA A,offA A+j * size+off,none⟩))) v:=by
 intro w hw ha
 obtain ⟨b,o,rfl,_,hc⟩:=elem_at hR ((h w ha).reads hK hs0) hx
 exact run_loadAt_cell hu (hc off v hv)
theorem part_list {β:Type} (cur vs:List β) (a size off:Nat) (h1:off+vs.length≤size) (h2:a+size≤cur.length) :
  cur.take (a+off)++vs++cur.drop (a+off+vs.length)=cur.take a++(((cur.drop a).take size).take off++vs++((cur.drop a).take size).drop (off+vs.length))++cur.drop (a+size):=by
 have e1:cur.take (a+off)=cur.take a++(cur.drop a).take off:=by rw [List.take_add]
 have e2:((cur.drop a).take size).take off=(cur.drop a).take off:=by rw [List.take_take,Nat.min_eq_left (by omega)]
 have e3:((cur.drop a).take size).drop (off+vs.length)++cur.drop (a+size)=cur.drop (a+off+vs.length):=by
  have h3:cur.drop (a+off+vs.length)=((cur.drop a).take size++(cur.drop a).drop size).drop (off+vs.length):=by
   rw [List.take_append_drop,List.drop_drop];congr 1;omega
  rw [h3,List.drop_append_of_le_length (by simp;omega),List.drop_drop]
 rw [e1,e2]
 simp only [List.append_assoc]
 rw [e3]
theorem store_part {α:Type} {R:Rd α} (hK:Keeps R) (hL:Leaf R) {size:Nat} {tc:α→Array Value} (hR:∀ (w:World) (S:Nat→Prop) (cs:List Value) (x:α),R w S cs x→cs=(tc x).toList) (hts:∀ x,(tc x).size=size) {e T:TypeId} {A:Option Addr} {n c:Nat} {xs:List α} {j off:Nat} {x x' : α} {v:Value} {vs:List Value} (hrow:∀ w,All D w→OwnElems R size w 0 e (fun _=>False) A n c xs) (hj:j < n) (hx:xs[j]?=some x) (hv:v.cells=vs.toArray)
  (hk:off+vs.length≤size) (hnew:(tc x).toList.take off++vs++(tc x).toList.drop (off+vs.length)=(tc x').toList) (hr:∀ w,R w (fun _=>False) (tc x').toList x') (h1:∀ c ∈ vs,c.oneCell'=true) (hi:(P.info? T).map (·.size)=some vs.length) :
  StepU P w0 D (Instr.storeAt T (.pointer (some ⟨blkA A,offA A+j * size+off,none⟩)) v) (ownF R size e A n c xs).S Unit (fun _=>undef) (fun _=>[ownF R size e A n c (xs.set j x')]):=by
 intro w hw ha
 obtain ⟨g,rfl,_,hg⟩:=(hrow w ha).where_ (by omega)
 obtain ⟨cur,hcur,hcs⟩:=(hrow w ha).cur
 have hle:j * size+size≤n * size:=by
  have:(j+1) * size≤n * size:=Nat.mul_le_mul_right _ (by omega)
  rw [Nat.succ_mul] at this;exact this
 have hs0:(tc x).size=size:=hts x
 have hin:(cur.toList.drop (j * size)).take size=(tc x).toList:=by
  rcases Nat.eq_zero_or_pos size with h0 | h0
  ·rw [h0];have:(tc x).toList.length=0:=by simp [hs0,h0]
   rw [List.eq_nil_of_length_eq_zero this];rfl
  obtain ⟨b,o,he,_,hc⟩:=elem_at hR ((hrow w ha).reads hK h0) hx
  injection he with he
  injection he with e1 e2
  subst e1 e2
  apply List.ext_getElem?
  intro i
  rw [List.getElem?_take]
  by_cases hi' : i < size
  ·rw [if_pos hi',List.getElem?_drop]
   have h3:(tc x)[i]?=some ((tc x)[i]'(by omega)):=Array.getElem?_eq_getElem (by omega)
   have h4:=hc i _ h3
   rw [Array.getElem?_toList,Array.getElem?_toList,h3]
   have h5:cur[j * size+i]?=some (cur[j * size+i]'(by omega)):=Array.getElem?_eq_getElem (by omega)
   have h6:=(block_cell hcur (j * size+i) _ h5).1
   rw [Nat.zero_add] at h4
   rw [h4] at h6
   rw [h5]
   exact h6.symm
  ·rw [if_neg hi',List.getElem?_eq_none (by simp;omega)]
 have hall:vs.toArray.all (·.oneCell')=true:=all_oneCell_toArray h1
 have he:Instr.storeAt T (.pointer (some ⟨blkA (some ⟨g,0,none⟩),offA (some ⟨g,0,none⟩)+j * size+off,none⟩)) v=Instr.storeAt T (.pointer (some ⟨g,j * size+off,none⟩)) (.agg vs.toArray):=by
  simp only [Instr.storeAt,storeVar,hv,blkA,offA,Nat.zero_add]
  rfl
 refine ⟨(),w.setCells g (j * size+off) vs,?_,rfl,⟨?_,?_,?_,?_,?_⟩,news_one ?_ (ownF_stable hK) (fun k hk=>?_)⟩
 ·rw [he]
  exact run_store_elem T hcur (by simp) (by omega) hi hall
 ·exact (setCells_below (Nat.zero_le _) vs _ w (Below.refl 0 w)).os
 ·exact (setCells_below (Nat.zero_le _) vs _ w (Below.refl 0 w)).tape
 ·exact (setCells_below (Nat.zero_le _) vs _ w (Below.refl 0 w)).output
 ·rw [setCells_size];exact Nat.le_refl _
 ·intro k _ hk
  refine setCells_other (fun e=>hk ?_) _ _ _
  subst e
  simp only [ownF]
  obtain ⟨css,h1,h2,h3⟩:=hrow w ha
  obtain ⟨g',cap',hv',_,_⟩:=World.ownsRow.form h1 (by omega)
  rw [hv']
  injection hv' with e1 _ e2
  injection e1 with e1
  injection e1 with e1
  subst e1
  rfl
 ·refine (hrow w ha).put hK hj (cs:=(tc x').toList) (by simpa using hts x') (hr w) _ (fun cur' hc'=>?_)
  rw [hcur] at hc'
  injection hc' with hc'
  injection hc' with hc'
  subst hc'
  have:=setCells_row (T:=e) (g:=g) vs (j * size+off) w cur.toList (by simpa using hcur) (by simp;omega)
  rw [this,part_list cur.toList vs (j * size) size off hk (by simp;omega),hin,hnew]
 ·refine ⟨.inl hk,?_⟩
  rw [setCells_size]
  exact ((hrow w ha).block k hk).2
theorem el_index {α:Type} {R:Rd α} {size:Nat} {t e:TypeId} (ht:P.underlying t=some (.slice e)) {bytes:Nat} {z:Value} (hinfo:(P.info? e).map (fun i=>(i.zero,i.size,i.bytes))=some (some z,size,bytes)) {A:Option Addr} {xs:List α} {n c:Nat} (h:∀ w,Below w0.heap.size w0 w→All D w→∃ S,Elems R size w S A xs) (hn:xs.length=n) {j:Nat} (hj:j < n) {k:IntKind} :
  Yields0 P w0 D (Instr.indexAt t (.slice A n c) (.int k (j:Int))) (.pointer (some ⟨blkA A,offA A+j * size,none⟩)):=by
 intro w hw ha
 obtain ⟨S,hS⟩:=h w hw ha
 obtain ⟨b,off,rfl,_,_⟩:=hS (by omega)
 exact index_run ht hinfo hj w
theorem el_reads {α:Type} {R:Rd α} {size:Nat} {tc:α→Array Value} (hR:∀ (w:World) (S:Nat→Prop) (cs:List Value) (x:α),R w S cs x→cs=(tc x).toList) {A:Option Addr} {xs:List α} (h:∀ w,Below w0.heap.size w0 w→All D w→∃ S,Elems R size w S A xs) {j:Nat} {x:α} (hx:xs[j]?=some x):Reads0 w0 D (blkA A) (offA A+j * size) (tc x):=by
 intro w hw ha i v hv
 obtain ⟨S,hS⟩:=h w hw ha
 obtain ⟨b,off,rfl,_,hc⟩:=elem_at hR hS hx
 exact hc i v hv
theorem elems_lt {α:Type} {R:Rd α} {size:Nat} {tc:α→Array Value} (hR:∀ (w:World) (S:Nat→Prop) (cs:List Value) (x:α),R w S cs x→cs=(tc x).toList) (hts:∀ x,0 < (tc x).size) (hF:∀ {w:World} {S S' : Nat→Prop} {cs:List Value} {x:α},R w S cs x→R w S' cs x) {w:World} {S:Nat→Prop} {A:Option Addr} {xs:List α} (h:Elems R size w S A xs):Elems R size w (Lt w.heap.size) A xs:=fun h0=>by
 obtain ⟨b,off,e,hb,hc⟩:=h h0
 obtain ⟨b',off',e',_,hc'⟩:=elem_at hR h (List.getElem?_eq_getElem h0)
 rw [e] at e'
 injection e' with e'
 injection e' with e1 e2
 subst e1 e2
 refine ⟨b,off,e,?_,fun j x hx=>?_⟩
 ·exact block_lt_of_cell (hc' 0 _ (Array.getElem?_eq_getElem (hts _)))
 ·obtain ⟨cs,h1,h2,h3⟩:=hc j x hx
  exact ⟨cs,h1,h2,hF h3⟩
end Go.Proofs.Ytcpahggkioagkaa
