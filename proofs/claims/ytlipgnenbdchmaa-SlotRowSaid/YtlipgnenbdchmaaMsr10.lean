/-
  VcM
-/
import Derived.Test.YtlipgnenbdchmaaMsr08
import Derived.Test.YtlipgnenbdchmaaMsr06
import Derived.Test.YtlipgnenbdchmaaMsr02
import Derived.Deep.OwnRows
set_option linter.unusedVariables false
set_option linter.unusedSimpArgs false
namespace Go.Proofs.Ytlipgnenbdchmaa
set_option maxRecDepth 20000
open Go.RowKit
variable {P:Program} {w0:World} {D:List Fact}
theorem news_one {X:Nat→Prop} {lo:Nat} {f:Fact} {w:World} (h:f.F w) (hs:Stable f) (hy:∀ k,f.S k→(X k∨lo≤k)∧k < w.heap.size):News X lo [f] w :=
 ⟨⟨h,trivial⟩,fun f' hf k hk=>by simp at hf;subst hf;exact hy k hk,by simp,fun f' hf=>by simp at hf;subst hf;exact hs⟩
theorem news_nil {X:Nat→Prop} {lo:Nat} {w:World} : News X lo [] w:=⟨trivial,fun _ h=>(by cases h),List.Pairwise.nil,fun _ h=>(by cases h)⟩
theorem frame_alloc (w:World) (o:Obj) (X:Nat→Prop):Frame0 X w (w.alloc o):=⟨rfl,rfl,rfl,by simp,fun k hk _=>Below.heap_alloc w o k hk⟩
theorem build_step {m:Sem Value} {cs:Array Value} {e:TypeId} {k:Nat→Option Value} {r:Nat→Value} (h:newOf P m=some (cs,e,k)) (hk:∀ g,k g=some (r g)):StepM P w0 D m (fun _=>False) Nat r (fun g=>[cellsF g cs e]) :=
 fun w _ _=>⟨w.heap.size,w.alloc (.cells cs e),newOf_run h (hk _),frame_alloc _ _ _,news_one (heap_alloc_new w (.cells cs e)) (cellsF_stable _ _ _) (fun k hk=>by simp only [cellsF] at hk;subst hk;exact ⟨.inr (Nat.le_refl _),by simp⟩)⟩
theorem block_at {g:Nat} {cs:Array Value} {e:TypeId} {j:Nat} (h:D[j]?=some (cellsF g cs e)):∀ w,All D w→w.heap[g]?=some (.cells cs e (0,0)) :=
 fun w ha=>All_iff.1 ha _ (List.mem_of_getElem? h)
def blkA (A:Option Addr):Nat:=match A with | some a=>a.block | none=>0
def offA (A:Option Addr):Nat:=match A with | some a=>a.off | none=>0
theorem index_run {t e:TypeId} (ht:P.underlying t=some (.slice e)) {size bytes:Nat} {z:Value} (hinfo:(P.info? e).map (fun i=>(i.zero,i.size,i.bytes))=some (some z,size,bytes)) {b off n c j:Nat} {k:IntKind} (hj:j < n) (w:World) :
  (Instr.indexAt t (.slice (some ⟨b,off,none⟩) n c) (.int k (j:Int))).run P w = .ok (.pointer (some ⟨b,off+j * size,none⟩)) w:=by
 obtain ⟨i,hi,hz,hsz,hby⟩:=info_parts hinfo
 have he:P.elem t=e:=by simp [Program.elem,ht]
 rw [run_indexAt_slice (P:=P) w t ⟨b,off,none⟩ n c k j (by rw [he];exact ht),if_pos ⟨by omega,by omega⟩,he]
 simp [sizeOf,typeInfo,hi,hsz,Addr.add_mid]
section
variable {α:Type} {R:Rd α} {size:Nat} {tc:α→Array Value}
theorem elem_at {w:World} {S:Nat→Prop} {A:Option Addr} {xs:List α} (hR:∀ (w:World) (S:Nat→Prop) (cs:List Value) (x:α),R w S cs x→cs=(tc x).toList) (h:Elems R size w S A xs) {j:Nat} {x:α} (hx:xs[j]?=some x):∃ b off,A=some ⟨b,off,none⟩∧S b∧∀ (i:Nat) (v:Value),(tc x)[i]?=some v→w.cell? ⟨b,off+j * size+i,none⟩=some v:=by
 obtain ⟨b,off,e,hb,hc⟩:=h (by have:=(List.getElem?_eq_some_iff.1 hx).1;omega)
 obtain ⟨cs,hl,hcs,hr⟩:=hc j x hx
 refine ⟨b,off,e,hb,fun i v hv=>hcs i v ?_⟩
 rw [hR _ _ _ _ hr]
 simpa using hv
theorem low_index {t e:TypeId} (ht:P.underlying t=some (.slice e)) {bytes:Nat} {z:Value} (hinfo:(P.info? e).map (fun i=>(i.zero,i.size,i.bytes))=some (some z,size,bytes)) (hR:∀ (w:World) (S:Nat→Prop) (cs:List Value) (x:α),R w S cs x→cs=(tc x).toList) {B:Nat} (hB:B≤w0.heap.size) {A:Option Addr} {xs:List α} (h:Elems R size w0 (Lt B) A xs) {n c:Nat} (hn:xs.length=n) {j:Nat} (hj:j < n) {k:IntKind} :
  Yields0 P w0 D (Instr.indexAt t (.slice A n c) (.int k (j:Int))) (.pointer (some ⟨blkA A,offA A+j * size,none⟩)):=by
 obtain ⟨b,off,rfl,hb,_⟩:=elem_at hR h (List.getElem?_eq_getElem (show j < xs.length by omega))
 exact fun w _ _=>index_run ht hinfo hj w
theorem low_reads (hR:∀ (w:World) (S:Nat→Prop) (cs:List Value) (x:α),R w S cs x→cs=(tc x).toList) {B:Nat} (hB:B≤w0.heap.size) {A:Option Addr} {xs:List α} (h:Elems R size w0 (Lt B) A xs) {j:Nat} {x:α} (hx:xs[j]?=some x):Reads0 w0 D (blkA A) (offA A+j * size) (tc x):=by
 obtain ⟨b,off,rfl,hb,hc⟩:=elem_at hR h hx
 intro w hw _ i v hv
 exact (hw.cell (p:=⟨b,off+j * size+i,none⟩) (show b < w0.heap.size from Nat.lt_of_lt_of_le hb hB)).trans (hc i v hv)
end
theorem at_getD {α:Type} {xs:List α} {j:Nat} {z:α} (h:j < xs.length):xs[j]?=some (xs.getD j z):=by simp [List.getD,List.getElem?_eq_getElem h]
theorem wrap_is {x y:Int} (h:x=y) (h1 : -9223372036854775808≤y) (h2:y≤9223372036854775807):(Value.int .i64 (IntKind.i64.wrap x)) = .int .i64 y:=by
 subst h
 rw [IntKind.wrap_i64]
 congr 1
 omega
theorem build_step2 {m:Sem Value} {cs:Array Value} {e:TypeId} {r:Nat→Value} (h:(newOf P m).map (fun x=>(x.1,x.2.1))=some (cs,e)) (hk:∀ g,(newOf P m).bind (fun x=>x.2.2 g)=some (r g)):StepM P w0 D m (fun _=>False) Nat r (fun g=>[cellsF g cs e]):=by
 obtain ⟨⟨cs',e',k⟩,h1,h2⟩:=Option.map_eq_some_iff.1 h
 simp only [Prod.mk.injEq] at h2
 obtain ⟨rfl,rfl⟩:=h2
 exact build_step h1 (fun g=>by have:=hk g;rw [h1] at this;exact this)
def Agree (S:Nat→Prop) (w w' : World):Prop := ∀ k,S k→w'.heap[k]?=w.heap[k]?
theorem Agree.alike {S:Nat→Prop} {w w' : World} (h:Agree S w w'):Alike S w w':=fun b o hb=>World.cell?_of_block (h b hb)
def poolF (W:World) (Pr:Nat→Prop):Fact:=⟨fun w => ∀ k,Pr k→w.heap[k]?=W.heap[k]?,Pr⟩
theorem poolF_stable (W:World) (Pr:Nat→Prop):Stable (poolF W Pr):=fun w w' h hf k hk=>(h k hk).trans (hf k hk)
def Keeps3 {β:Type} (R:World→(Nat→Prop)→β→Prop):Prop := ∀ w w' S S' b,R w S b→Agree S w w'→(∀ k,S k→S' k)→R w' S' b
def Fixed (w0:World) (D:List Fact) (S:Nat→Prop) (W:World):Prop := ∀ w,Below w0.heap.size w0 w→All D w→Agree S W w∧∀ k,S k→k < w.heap.size
theorem fixed_low {S:Nat→Prop} (h:∀ k,S k→k < w0.heap.size):Fixed w0 D S w0:=fun w hw _=>⟨fun k hk=>hw.block k (h k hk),fun k hk=>Nat.lt_of_lt_of_le (h k hk) hw.size⟩
abbrev Dat {β:Type} (R:World→(Nat→Prop)→β→Prop) (S:Nat→Prop) (W:World):Type:={ x:World × (Nat→Prop) × β // R x.1 (fun k=>S k∨x.2.1 k) x.2.2∧Agree S W x.1∧∀ k,x.2.1 k→k < x.1.heap.size }
theorem gives_dat {β:Type} {R:World→(Nat→Prop)→β→Prop} {S:Nat→Prop} {W:World} {f:FuncId} {args:Array Value} {r:β→Value} (hd:Fixed w0 D S W)
  (hc:∀ w,Below w0.heap.size w0 w→All D w→Calls P f args w fun e w' => ∃ b,e = .returned (r b)∧Below w.heap.size w w'∧R w' (fun k=>S k∨(w.heap.size≤k∧k < w'.heap.size)) b) :
  GivesM P w0 D f args (Dat R S W) (fun x=>r x.1.2.2) (fun x=>[poolF x.1.1 x.1.2.1]):=fun w hw ha=>(hc w hw ha).mono (by
 rintro e w' ⟨b,rfl,hb,hR⟩
 obtain ⟨h1,h2⟩:=hd w hw ha
 refine ⟨⟨(w',(fun k=>w.heap.size≤k∧k < w'.heap.size),b),hR,fun k hk=>(hb.block k (h2 k hk)).trans (h1 k hk),fun k hk=>hk.2⟩,rfl,hb,news_one (fun k _=>rfl) (poolF_stable _ _) (fun k hk=>⟨.inr hk.1,hk.2⟩)⟩)
theorem Dat.later {β:Type} {R:World→(Nat→Prop)→β→Prop} (hK:Keeps3 R) {S:Nat→Prop} {W:World} (x:Dat R S W) {w:World} (hS:Agree S W w) (hp:(poolF x.1.1 x.1.2.1).F w):R w (fun k=>S k∨x.1.2.1 k) x.1.2.2 :=
 hK _ _ _ _ _ x.2.1 (fun k hk=>by
  rcases hk with hk | hk
  ·exact (hS k hk).trans (x.2.2.1 k hk).symm
  ·exact hp k hk) (fun _ h=>h)
theorem pool_at {W:World} {Pr:Nat→Prop} {j:Nat} {w:World} (h:D[j]?=some (poolF W Pr)) (ha:All D w):(poolF W Pr).F w:=All_iff.1 ha _ (List.mem_of_getElem? h)
end Go.Proofs.Ytlipgnenbdchmaa
