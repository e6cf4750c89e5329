/-
  VcM
-/
import Derived.Test.YtlipgnenbdchmaaMsg08
import Derived.Test.YtlipgnenbdchmaaMsg06
import Derived.Test.YtlipgnenbdchmaaMsg02
import Derived.Deep.OwnRows
set_option linter.unusedVariables false
set_option linter.unusedSimpArgs false
namespace Go.Proofs.Ytlipgnenbdchmaa
set_option maxRecDepth 20000
open Go.RowKit
variable {P:Program} {w0:World} {D:List Fact}
def ownF {α:Type} (R:Rd α) (size:Nat) (e:TypeId) (A:Option Addr) (n c:Nat) (xs:List α):Fact :=
 ⟨fun w=>OwnElems R size w 0 e (fun _=>False) A n c xs,fun k=>(Value.slice A n c).ownBlock=some k⟩
theorem ownF_stable {α:Type} {R:Rd α} (hR:Keeps R) {size:Nat} {e:TypeId} {A:Option Addr} {n c:Nat} {xs:List α} : Stable (ownF R size e A n c xs):=fun w w' h hf=>by
 obtain ⟨css,h1,h2,h3⟩:=hf
 refine ⟨css,⟨h1.1,?_⟩,h2.keep hR (fun _ _ h=>h.elim) (fun _ h=>h),h3⟩
 rcases h1.2 with h0 | ⟨g,cap,cur,hv,h4,h5,h6⟩
 ·exact .inl h0
 ·refine .inr ⟨g,cap,cur,hv,h4,(h g ?_).trans h5,h6⟩
  simp only [ownF]
  rw [hv];rfl
theorem news_one {X:Nat→Prop} {lo:Nat} {f:Fact} {w:World} (h:f.F w) (hs:Stable f) (hy:∀ k,f.S k→(X k∨lo≤k)∧k < w.heap.size):News X lo [f] w :=
 ⟨⟨h,trivial⟩,fun f' hf k hk=>by simp at hf;subst hf;exact hy k hk,by simp,fun f' hf=>by simp at hf;subst hf;exact hs⟩
theorem news_nil {X:Nat→Prop} {lo:Nat} {w:World} : News X lo [] w:=⟨trivial,fun _ h=>(by cases h),List.Pairwise.nil,fun _ h=>(by cases h)⟩
theorem frame_alloc (w:World) (o:Obj) (X:Nat→Prop):Frame0 X w (w.alloc o):=⟨rfl,rfl,rfl,by simp,fun k hk _=>Below.heap_alloc w o k hk⟩
theorem build_step {m:Sem Value} {cs:Array Value} {e:TypeId} {k:Nat→Option Value} {r:Nat→Value} (h:newOf P m=some (cs,e,k)) (hk:∀ g,k g=some (r g)):StepM P w0 D m (fun _=>False) Nat r (fun g=>[cellsF g cs e]) :=
 fun w _ _=>⟨w.heap.size,w.alloc (.cells cs e),newOf_run h (hk _),frame_alloc _ _ _,news_one (heap_alloc_new w (.cells cs e)) (cellsF_stable _ _ _) (fun k hk=>by simp only [cellsF] at hk;subst hk;exact ⟨.inr (Nat.le_refl _),by simp⟩)⟩
theorem each_any {α:Type} {R:Rd α} {size:Nat} {w:World} {S S' : Nat→Prop} (hF:∀ {cs x},R w S cs x→R w S' cs x):∀ {css:List (List Value)} {ys:List α},Each R size w S css ys→Each R size w S' css ys
 | [],[],_=>trivial
 | [],_ :: _,h=>h.elim
 | _ :: _,[],h=>h.elim
 | _ :: _,_ :: _,h=>⟨h.1,hF h.2.1,each_any hF h.2.2⟩
theorem append_core {α:Type} {R:Rd α} (hR:Keeps R) (hL:Leaf R) {size:Nat} (hsz:0 < size) {t ty e:TypeId} {z:Value} {bytes:Nat} (ht:P.underlying t=some (.slice e)) (hinfo:(P.info? e).map (fun i=>(i.zero,i.size,i.bytes))=some (some z,size,bytes)) (hzs:z.cells.size=size)
  {A:Option Addr} {n c:Nat} {xs:List α} {A2:Option Addr} {m c2:Nat} {ys:List α} {X:Nat→Prop} (hX:∀ k,(Value.slice A n c).ownBlock=some k→X k)
  (hrow:∀ w,All D w→OwnElems R size w 0 e (fun _=>False) A n c xs) (hsrc:∀ w,Below w0.heap.size w0 w→All D w→∃ S,Elems R size w S A2 ys) (hm:ys.length=m) (h63:n+m≤maxLen) (hbytes:(n+m) * bytes≤140737488355328) (hF:∀ {w S cs x},R w S cs x→R w (fun _=>False) cs x) :
  StepM P w0 D (Builtin.append_ #[t,t] ty #[.slice A n c,.slice A2 m c2]) X (Option Addr × Nat) (fun x=>.slice x.1 (n+m) x.2) (fun x=>[ownF R size e x.1 (n+m) x.2 (xs++ys)]):=by
 intro w hw ha
 obtain ⟨S,hs⟩:=hsrc w hw ha
 obtain ⟨css,he,hc⟩:=Elems.each hs
 have he2:Each R size w (fun _=>False) css ys:=each_any hF he
 obtain ⟨A',c',w',hrun,hown,hg,hat⟩:=run_append_elems (P:=P) hR hL hsz 0 t ty e z bytes ht hinfo hzs (hrow w ha) (S3:=fun _=>False) (A2:=A2) (c2:=c2) he2 (fun h0=>by
  obtain ⟨b,off,e1,_,e2⟩:=hc (by rw [hm];exact h0)
  exact ⟨b,off,e1,e2⟩) hm (fun _ h=>h) (fun _ h=>h.elim) h63 hbytes (Nat.zero_le _)
 refine ⟨(A',c'),w',hrun,⟨hg.os,hg.tape,hg.output,hg.size,fun k hk hx=>hg.block k hk (fun e=>hx (hX k e.symm))⟩,news_one hown (ownF_stable hR) (fun k hk=>?_)⟩
 simp only [ownF] at hk
 refine ⟨?_,(hown.block k hk).2⟩
 rcases hat with h | h
 ·exact .inl (hX k (by rw [← h];exact hk))
 ·rw [hk] at h;exact .inr (by have:=Option.some.inj h;omega)
theorem row_at {α:Type} {R:Rd α} {size:Nat} {e:TypeId} {A:Option Addr} {n c:Nat} {xs:List α} {j:Nat} (h:D[j]?=some (ownF R size e A n c xs)):∀ w,All D w→OwnElems R size w 0 e (fun _=>False) A n c xs :=
 fun w ha=>All_iff.1 ha _ (List.mem_of_getElem? h)
theorem block_at {g:Nat} {cs:Array Value} {e:TypeId} {j:Nat} (h:D[j]?=some (cellsF g cs e)):∀ w,All D w→w.heap[g]?=some (.cells cs e (0,0)) :=
 fun w ha=>All_iff.1 ha _ (List.mem_of_getElem? h)
theorem one_elem {α:Type} {R:Rd α} {size g:Nat} {cs:Array Value} {e:TypeId} {w:World} {x:α} (h:w.heap[g]?=some (.cells cs e (0,0))) (hl:cs.size=size) (hR:R w (fun _=>True) cs.toList x):∃ S,Elems R size w S (some ⟨g,0,none⟩) [x] :=
 ⟨fun _=>True,fun _=>⟨g,0,rfl,trivial,fun j y hj=>by
  have hj0:j=0:=by
   rcases Nat.eq_zero_or_pos j with h0 | h0
   ·exact h0
   ·rw [List.getElem?_eq_none (by simp;omega)] at hj;cases hj
  subst hj0
  simp at hj
  subst hj
  exact ⟨cs.toList,by simpa using hl,fun i c hc=>by rw [Nat.zero_mul,Nat.zero_add];exact (block_cell h i c (by simpa using hc)).1,hR⟩⟩⟩
def blkA (A:Option Addr):Nat:=match A with | some a=>a.block | none=>0
def offA (A:Option Addr):Nat:=match A with | some a=>a.off | none=>0
theorem index_run {t e:TypeId} (ht:P.underlying t=some (.slice e)) {size bytes:Nat} {z:Value} (hinfo:(P.info? e).map (fun i=>(i.zero,i.size,i.bytes))=some (some z,size,bytes)) {b off n c j:Nat} {k:IntKind} (hj:j < n) (w:World) :
  (Instr.indexAt t (.slice (some ⟨b,off,none⟩) n c) (.int k (j:Int))).run P w = .ok (.pointer (some ⟨b,off+j * size,none⟩)) w:=by
 obtain ⟨i,hi,hz,hsz,hby⟩:=info_parts hinfo
 have he:P.elem t=e:=by simp [Program.elem,ht]
 rw [run_indexAt_slice (P:=P) w t ⟨b,off,none⟩ n c k j (by rw [he];exact ht),if_pos ⟨by omega,by omega⟩,he]
 simp [sizeOf,typeInfo,hi,hsz,Addr.add_mid]
section
variable {α:Type} {R:Rd α} {size:Nat} {tc:α→Array Value}
theorem elem_at {w:World} {S:Nat→Prop} {A:Option Addr} {xs:List α} (hR:∀ (w:World) (S:Nat→Prop) (cs:List Value) (x:α),R w S cs x→cs=(tc x).toList) (h:Elems R size w S A xs) {j:Nat} {x:α} (hx:xs[j]?=some x):∃ b off,A=some ⟨b,off,none⟩∧S b∧∀ (i:Nat) (v:Value),(tc x)[i]?=some v→w.cell? ⟨b,off+j * size+i,none⟩=some v:=by
 obtain ⟨b,off,e,hb,hc⟩:=h (by have:=(List.getElem?_eq_some_iff.1 hx).1;omega)
 obtain ⟨cs,hl,hcs,hr⟩:=hc j x hx
 refine ⟨b,off,e,hb,fun i v hv=>hcs i v ?_⟩
 rw [hR _ _ _ _ hr]
 simpa using hv
theorem low_index {t e:TypeId} (ht:P.underlying t=some (.slice e)) {bytes:Nat} {z:Value} (hinfo:(P.info? e).map (fun i=>(i.zero,i.size,i.bytes))=some (some z,size,bytes)) (hR:∀ (w:World) (S:Nat→Prop) (cs:List Value) (x:α),R w S cs x→cs=(tc x).toList) {B:Nat} (hB:B≤w0.heap.size) {A:Option Addr} {xs:List α} (h:Elems R size w0 (Lt B) A xs) {n c:Nat} (hn:xs.length=n) {j:Nat} (hj:j < n) {k:IntKind} :
  Yields0 P w0 D (Instr.indexAt t (.slice A n c) (.int k (j:Int))) (.pointer (some ⟨blkA A,offA A+j * size,none⟩)):=by
 obtain ⟨b,off,rfl,hb,_⟩:=elem_at hR h (List.getElem?_eq_getElem (show j < xs.length by omega))
 exact fun w _ _=>index_run ht hinfo hj w
theorem low_reads (hR:∀ (w:World) (S:Nat→Prop) (cs:List Value) (x:α),R w S cs x→cs=(tc x).toList) {B:Nat} (hB:B≤w0.heap.size) {A:Option Addr} {xs:List α} (h:Elems R size w0 (Lt B) A xs) {j:Nat} {x:α} (hx:xs[j]?=some x):Reads0 w0 D (blkA A) (offA A+j * size) (tc x):=by
 obtain ⟨b,off,rfl,hb,hc⟩:=elem_at hR h hx
 intro w hw _ i v hv
 exact (hw.cell (p:=⟨b,off+j * size+i,none⟩) (show b < w0.heap.size from Nat.lt_of_lt_of_le hb hB)).trans (hc i v hv)
theorem own_index {t e:TypeId} (ht:P.underlying t=some (.slice e)) {bytes:Nat} {z:Value} (hinfo:(P.info? e).map (fun i=>(i.zero,i.size,i.bytes))=some (some z,size,bytes)) {A:Option Addr} {n c:Nat} {xs:List α} (h:∀ w,All D w→OwnElems R size w 0 e (fun _=>False) A n c xs) {j:Nat} (hj:j < n) {k:IntKind} :
  Yields0 P w0 D (Instr.indexAt t (.slice A n c) (.int k (j:Int))) (.pointer (some ⟨blkA A,offA A+j * size,none⟩)):=by
 intro w hw ha
 obtain ⟨g,rfl,_,_⟩:=(h w ha).where_ (by omega)
 exact index_run ht hinfo hj w
end
theorem at_getD {α:Type} {xs:List α} {j:Nat} {z:α} (h:j < xs.length):xs[j]?=some (xs.getD j z):=by simp [List.getD,List.getElem?_eq_getElem h]
theorem wrap_is {x y:Int} (h:x=y) (h1 : -9223372036854775808≤y) (h2:y≤9223372036854775807):(Value.int .i64 (IntKind.i64.wrap x)) = .int .i64 y:=by
 subst h
 rw [IntKind.wrap_i64]
 congr 1
 omega
theorem store_core {α:Type} {R:Rd α} (hK:Keeps R) (hL:Leaf R) {size:Nat} {e T:TypeId} {A:Option Addr} {n c:Nat} {xs:List α} {j:Nat} {x:α} {v:Value} {vs:List Value} (hrow:∀ w,All D w→OwnElems R size w 0 e (fun _=>False) A n c xs) (hj:j < n) (hv:v.cells=vs.toArray) (hl:vs.length=size)
  (hr:∀ w,R w (fun _=>False) vs x) (hi:(P.info? T).map (·.size)=some size) :
  StepU P w0 D (Instr.storeAt T (.pointer (some ⟨blkA A,offA A+j * size,none⟩)) v) (ownF R size e A n c xs).S Unit (fun _=>undef) (fun _=>[ownF R size e A n c (xs.set j x)]):=by
 intro w hw ha
 obtain ⟨g,rfl,_,hg⟩:=(hrow w ha).where_ (by omega)
 obtain ⟨cur,hcur,hcs⟩:=(hrow w ha).cur
 have hle:j * size+size≤n * size:=by
  have:(j+1) * size≤n * size:=Nat.mul_le_mul_right _ (by omega)
  rw [Nat.succ_mul] at this;exact this
 have h1:vs.toArray.all (·.oneCell')=true:=all_oneCell_toArray (hL w _ vs x (hr w))
 have he:Instr.storeAt T (.pointer (some ⟨blkA (some ⟨g,0,none⟩),offA (some ⟨g,0,none⟩)+j * size,none⟩)) v=Instr.storeAt T (.pointer (some ⟨g,j * size,none⟩)) (.agg vs.toArray):=by
  simp only [Instr.storeAt,storeVar,hv,blkA,offA,Nat.zero_add]
  rfl
 refine ⟨(),w.setCells g (j * size) vs,?_,rfl,⟨?_,?_,?_,?_,?_⟩,news_one ?_ (ownF_stable hK) (fun k hk=>?_)⟩
 ·rw [he]
  exact run_store_elem T hcur (by simpa using hl) (by omega) hi h1
 ·exact (setCells_below (Nat.zero_le _) vs _ w (Below.refl 0 w)).os
 ·exact (setCells_below (Nat.zero_le _) vs _ w (Below.refl 0 w)).tape
 ·exact (setCells_below (Nat.zero_le _) vs _ w (Below.refl 0 w)).output
 ·rw [setCells_size];exact Nat.le_refl _
 ·intro k _ hk
  refine setCells_other (fun e=>hk ?_) _ _ _
  subst e
  simp only [ownF]
  obtain ⟨css,h1,h2,h3⟩:=hrow w ha
  obtain ⟨g',cap',hv',_,_⟩:=World.ownsRow.form h1 (by omega)
  rw [hv']
  injection hv' with e1 _ e2
  injection e1 with e1
  injection e1 with e1
  subst e1
  rfl
 ·refine (hrow w ha).put hK hj hl (hr w) _ (fun cur' hc'=>?_)
  rw [hcur] at hc'
  injection hc' with hc'
  injection hc' with hc'
  subst hc'
  have:=setCells_row (T:=e) (g:=g) vs (j * size) w cur.toList (by simpa using hcur) (by simp;omega)
  rw [hl] at this
  exact this
 ·refine ⟨.inl hk,?_⟩
  rw [setCells_size]
  exact ((hrow w ha).block k hk).2
theorem flat1 {α β:Type} (f:α→β):∀ xs:List α,(xs.map fun x=>[f x]).flatten=xs.map f
 | []=>rfl
 |x :: xs=>by simp [flat1 f xs]
theorem own_ints {w:World} {base n c:Nat} {e:TypeId} {k:IntKind} {A:Option Addr} {xs:List Int} {S:Nat→Prop} (h:OwnInts w base e k A n c xs):OwnElems (rdInt k) 1 w base e S A n c xs:=by
 refine ⟨xs.map fun x=>[Value.int k x],?_,?_,h.len⟩
 ·have:=h.1
  rwa [flat1]
 ·have hw:=h.2
  clear h
  induction xs with
  |nil=>trivial
  |cons x xs ih=>exact ⟨rfl,⟨rfl,hw x (by simp)⟩,ih (fun y hy=>hw y (by simp [hy]))⟩
theorem make_int {t e:TypeId} {k:IntKind} {bytes n:Nat} (ht:P.underlying t=some (.slice e)) (hinfo:(P.info? e).map (fun i=>(i.zero,i.size,i.bytes))=some (some (.int k 0),1,bytes)) (hn:bytes * n≤281474976710656) (h63:n≤maxLen) :
  StepM P w0 D (Instr.makeSlice t (.int .i64 (n:Int)) (.int .i64 (n:Int))) (fun _=>False) Nat (fun g=>.slice (some ⟨g,0,none⟩) n n) (fun g=>[ownF (rdInt k) 1 e (some ⟨g,0,none⟩) n n (List.replicate n 0)]):=by
 intro w hw ha
 refine ⟨w.heap.size,_,run_make_row' t e (.int k 0) bytes ht hinfo rfl .i64 .i64 n hn (by unfold maxLen at h63;omega) w,frame_alloc _ _ _,news_one ?_ (ownF_stable (keeps_int k)) (fun g hg=>?_)⟩
 ·exact own_ints (OwnInts.new (Nat.zero_le _) (List.replicate n 0) (by rw [toList_madeCells_one];simp) (fun x hx=>by
   rw [(List.mem_replicate.1 hx).2]
   cases k<;>rfl) (by simp) h63)
 ·simp only [ownF,Value.ownBlock] at hg
  have hg:=Option.some.inj hg
  exact ⟨.inr (by omega),by simp;omega⟩
theorem build_step2 {m:Sem Value} {cs:Array Value} {e:TypeId} {r:Nat→Value} (h:(newOf P m).map (fun x=>(x.1,x.2.1))=some (cs,e)) (hk:∀ g,(newOf P m).bind (fun x=>x.2.2 g)=some (r g)):StepM P w0 D m (fun _=>False) Nat r (fun g=>[cellsF g cs e]):=by
 obtain ⟨⟨cs',e',k⟩,h1,h2⟩:=Option.map_eq_some_iff.1 h
 simp only [Prod.mk.injEq] at h2
 obtain ⟨rfl,rfl⟩:=h2
 exact build_step h1 (fun g=>by have:=hk g;rw [h1] at this;exact this)
theorem step_to2 {m:Sem Value} {X:Nat→Prop} {α:Type} {R:Rd α} {size n k:Nat} {e:TypeId} {xs ys:List α} (hn:n=k) (h:xs=ys) (hs:StepM P w0 D m X (Option Addr × Nat) (fun x=>.slice x.1 n x.2) (fun x=>[ownF R size e x.1 n x.2 xs])):StepM P w0 D m X (Option Addr × Nat) (fun x=>.slice x.1 k x.2) (fun x=>[ownF R size e x.1 k x.2 ys]):=by
 subst hn h;exact hs
theorem store_int {e T:TypeId} {k:IntKind} {A:Option Addr} {n c:Nat} {xs:List Int} {j:Nat} {x:Int} (hrow:∀ w,All D w→OwnElems (rdInt k) 1 w 0 e (fun _=>False) A n c xs) (hj:j < n) (hw:(Lit.int k x).wf=true) (hi:(P.info? T).map (·.size)=some 1) :
  StepU P w0 D (Instr.storeAt T (.pointer (some ⟨blkA A,offA A+j * 1,none⟩)) (.int k x)) (ownF (rdInt k) 1 e A n c xs).S Unit (fun _=>undef) (fun _=>[ownF (rdInt k) 1 e A n c (xs.set j x)]) :=
 store_core (keeps_int k) (leaf_int k) (vs:=[.int k x]) hrow hj rfl rfl (fun _=>⟨rfl,hw⟩) hi
def Agree (S:Nat→Prop) (w w' : World):Prop := ∀ k,S k→w'.heap[k]?=w.heap[k]?
theorem Agree.alike {S:Nat→Prop} {w w' : World} (h:Agree S w w'):Alike S w w':=fun b o hb=>World.cell?_of_block (h b hb)
def poolF (W:World) (Pr:Nat→Prop):Fact:=⟨fun w => ∀ k,Pr k→w.heap[k]?=W.heap[k]?,Pr⟩
theorem poolF_stable (W:World) (Pr:Nat→Prop):Stable (poolF W Pr):=fun w w' h hf k hk=>(h k hk).trans (hf k hk)
def Keeps3 {β:Type} (R:World→(Nat→Prop)→β→Prop):Prop := ∀ w w' S S' b,R w S b→Agree S w w'→(∀ k,S k→S' k)→R w' S' b
def Fixed (w0:World) (D:List Fact) (S:Nat→Prop) (W:World):Prop := ∀ w,Below w0.heap.size w0 w→All D w→Agree S W w∧∀ k,S k→k < w.heap.size
theorem fixed_low {S:Nat→Prop} (h:∀ k,S k→k < w0.heap.size):Fixed w0 D S w0:=fun w hw _=>⟨fun k hk=>hw.block k (h k hk),fun k hk=>Nat.lt_of_lt_of_le (h k hk) hw.size⟩
abbrev Dat {β:Type} (R:World→(Nat→Prop)→β→Prop) (S:Nat→Prop) (W:World):Type:={ x:World × (Nat→Prop) × β // R x.1 (fun k=>S k∨x.2.1 k) x.2.2∧Agree S W x.1∧∀ k,x.2.1 k→k < x.1.heap.size }
theorem gives_dat {β:Type} {R:World→(Nat→Prop)→β→Prop} {S:Nat→Prop} {W:World} {f:FuncId} {args:Array Value} {r:β→Value} (hd:Fixed w0 D S W)
  (hc:∀ w,Below w0.heap.size w0 w→All D w→Calls P f args w fun e w' => ∃ b,e = .returned (r b)∧Below w.heap.size w w'∧R w' (fun k=>S k∨(w.heap.size≤k∧k < w'.heap.size)) b) :
  GivesM P w0 D f args (Dat R S W) (fun x=>r x.1.2.2) (fun x=>[poolF x.1.1 x.1.2.1]):=fun w hw ha=>(hc w hw ha).mono (by
 rintro e w' ⟨b,rfl,hb,hR⟩
 obtain ⟨h1,h2⟩:=hd w hw ha
 refine ⟨⟨(w',(fun k=>w.heap.size≤k∧k < w'.heap.size),b),hR,fun k hk=>(hb.block k (h2 k hk)).trans (h1 k hk),fun k hk=>hk.2⟩,rfl,hb,news_one (fun k _=>rfl) (poolF_stable _ _) (fun k hk=>⟨.inr hk.1,hk.2⟩)⟩)
theorem Dat.later {β:Type} {R:World→(Nat→Prop)→β→Prop} (hK:Keeps3 R) {S:Nat→Prop} {W:World} (x:Dat R S W) {w:World} (hS:Agree S W w) (hp:(poolF x.1.1 x.1.2.1).F w):R w (fun k=>S k∨x.1.2.1 k) x.1.2.2 :=
 hK _ _ _ _ _ x.2.1 (fun k hk=>by
  rcases hk with hk | hk
  ·exact (hS k hk).trans (x.2.2.1 k hk).symm
  ·exact hp k hk) (fun _ h=>h)
theorem pool_at {W:World} {Pr:Nat→Prop} {j:Nat} {w:World} (h:D[j]?=some (poolF W Pr)) (ha:All D w):(poolF W Pr).F w:=All_iff.1 ha _ (List.mem_of_getElem? h)
theorem own_new {α:Type} {R:Rd α} (hK:Keeps R) {size:Nat} (hs:0 < size) {e:TypeId} {A:Option Addr} {n c:Nat} {xs:List α} {w:World} {S:Nat→Prop} (h:OwnElems R size w 0 e (fun _=>False) A n c xs) (hS:∀ k,(ownF R size e A n c xs).S k→S k) (hF:∀ {S S' : Nat→Prop} {cs:List Value} {x:α},R w S cs x→R w S' cs x):Elems R size w S A xs:=fun h0=>by
 have hl:=h.len
 obtain ⟨g,rfl,_,_⟩:=h.where_ (by omega)
 obtain ⟨b,off,e,hb,hc⟩:=h.reads hK hs h0
 injection e with e
 injection e with e1 e2
 subst e1 e2
 exact ⟨_,_,rfl,hS _ rfl,fun j x hx=>by
  obtain ⟨cs,h1,h2,h3⟩:=hc j x hx
  exact ⟨cs,h1,h2,hF h3⟩⟩
theorem index_at {T:TypeId} {v:Value} {x:Int} {j:Nat} {k:IntKind} {r:Value} (hx:x=(j:Int)) (h:Yields0 P w0 D (Instr.indexAt T v (.int k (j:Int))) r):Yields0 P w0 D (Instr.indexAt T v (.int k x)) r:=by
 subst hx;exact h
end Go.Proofs.Ytlipgnenbdchmaa
