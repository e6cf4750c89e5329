/-
  VcM
-/
import Derived.Test.YtbbjlfbemibfcaaGreatMrr07
import Derived.Test.YtbbjlfbemibfcaaGreatMrr05
import Derived.Test.YtbbjlfbemibfcaaGreatMrr02
import Derived.Deep.OwnRows
set_option linter.unusedVariables false
set_option linter.unusedSimpArgs false
namespace Go.Proofs.YtbbjlfbemibfcaaGreat
set_option maxRecDepth 20000
open Go.RowKit
variable {P:Program} {w0:World} {D:List Fact}
def ah {α:Type} (R:Rd α) (size:Nat) (e:TypeId) (A:Option Addr) (n c:Nat) (xs:List α):Fact :=
 ⟨fun w=>um R size w 0 e (fun _=>False) A n c xs,fun k=>(Value.slice A n c).ownBlock=some k⟩
theorem Ko {α:Type} {R:Rd α} (hR:qc2 R) {size:Nat} {e:TypeId} {A:Option Addr} {n c:Nat} {xs:List α} : Stable (ah R size e A n c xs):=fun w w' h hf=>by
 obtain ⟨css,h1,h2,h3⟩:=hf
 refine ⟨css,⟨h1.1,?_⟩,h2.keep hR (fun _ _ h=>h.elim) (fun _ h=>h),h3⟩
 rcases h1.2 with h0 | ⟨g,cap,cur,hv,h4,h5,h6⟩
 ·exact .inl h0
 ·refine .inr ⟨g,cap,cur,hv,h4,(h g ?_).trans h5,h6⟩
  simp only [ah]
  rw [hv];rfl
theorem Om {X:Nat→Prop} {lo:Nat} {f:Fact} {w:World} (h:f.F w) (hs:Stable f) (hy:∀ k,f.S k→(X k∨lo≤k)∧k < w.heap.size):xq X lo [f] w :=
 ⟨⟨h,trivial⟩,fun f' hf k hk=>by simp at hf;subst hf;exact hy k hk,by simp,fun f' hf=>by simp at hf;subst hf;exact hs⟩
theorem zh {X:Nat→Prop} {lo:Nat} {w:World} : xq X lo [] w:=⟨trivial,fun _ h=>(by cases h),List.Pairwise.nil,fun _ h=>(by cases h)⟩
theorem qh6 (w:World) (o:Obj) (X:Nat→Prop):Dk X w (w.alloc o):=⟨rfl,rfl,rfl,by simp,fun k hk _=>Below.heap_alloc w o k hk⟩
theorem qw2 {m:Sem Value} {cs:Array Value} {e:TypeId} {k:Nat→Option Value} {r:Nat→Value} (h:F9 P m=some (cs,e,k)) (hk:∀ g,k g=some (r g)):jw P w0 D m (fun _=>False) Nat r (fun g=>[dw g cs e]) :=
 fun w _ _=>⟨w.heap.size,w.alloc (.cells cs e),qlx h (hk _),qh6 _ _ _,Om (heap_alloc_new w (.cells cs e)) (Zt _ _ _) (fun k hk=>by simp only [dw] at hk;subst hk;exact ⟨.inr (Nat.le_refl _),by simp⟩)⟩
theorem Rh {α:Type} {R:Rd α} (hR:qc2 R) (size:Nat) (e:TypeId):xg w0 D [ah R size e none 0 0 ([]:List α)]:=fun w _ _ =>
 Om um.nil (Ko hR) (fun k hk=>by simp [ah,Value.ownBlock] at hk)
theorem qnt {α:Type} {R:Rd α} {size:Nat} {w:World} {S S' : Nat→Prop} (hF:∀ {cs x},R w S cs x→R w S' cs x):∀ {css:List (List Value)} {ys:List α},Each R size w S css ys→Each R size w S' css ys
 | [],[],_=>trivial
 | [],_ :: _,h=>h.elim
 | _ :: _,[],h=>h.elim
 | _ :: _,_ :: _,h=>⟨h.1,hF h.2.1,qnt hF h.2.2⟩
theorem zq {α:Type} {R:Rd α} (hR:qc2 R) (hL:Leaf R) {size:Nat} (hsz:0 < size) {t ty e:TypeId} {z:Value} {bytes:Nat} (ht:P.underlying t=some (.slice e)) (hinfo:(P.info? e).map (fun i=>(i.zero,i.size,i.bytes))=some (some z,size,bytes)) (hzs:z.cells.size=size)
  {A:Option Addr} {n c:Nat} {xs:List α} {A2:Option Addr} {m c2:Nat} {ys:List α} {X:Nat→Prop} (hX:∀ k,(Value.slice A n c).ownBlock=some k→X k)
  (hrow:∀ w,All D w→um R size w 0 e (fun _=>False) A n c xs) (hsrc:∀ w,Below w0.heap.size w0 w→All D w→∃ S,ql R size w S A2 ys) (hm:ys.length=m) (h63:n+m≤maxLen) (hbytes:(n+m) * bytes≤140737488355328) (hF:∀ {w S cs x},R w S cs x→R w (fun _=>False) cs x) :
  jw P w0 D (Builtin.append_ #[t,t] ty #[.slice A n c,.slice A2 m c2]) X (Option Addr × Nat) (fun x=>.slice x.1 (n+m) x.2) (fun x=>[ah R size e x.1 (n+m) x.2 (xs++ys)]):=by
 intro w hw ha
 obtain ⟨S,hs⟩:=hsrc w hw ha
 obtain ⟨css,he,hc⟩:=ql.each hs
 have he2:Each R size w (fun _=>False) css ys:=qnt hF he
 obtain ⟨A',c',w',hrun,hown,hg,hat⟩:=qnn (P:=P) hR hL hsz 0 t ty e z bytes ht hinfo hzs (hrow w ha) (S3:=fun _=>False) (A2:=A2) (c2:=c2) he2 (fun h0=>by
  obtain ⟨b,off,e1,_,e2⟩:=hc (by rw [hm];exact h0)
  exact ⟨b,off,e1,e2⟩) hm (fun _ h=>h) (fun _ h=>h.elim) h63 hbytes (Nat.zero_le _)
 refine ⟨(A',c'),w',hrun,⟨hg.os,hg.tape,hg.output,hg.size,fun k hk hx=>hg.block k hk (fun e=>hx (hX k e.symm))⟩,Om hown (Ko hR) (fun k hk=>?_)⟩
 simp only [ah] at hk
 refine ⟨?_,(hown.block k hk).2⟩
 rcases hat with h | h
 ·exact .inl (hX k (by rw [← h];exact hk))
 ·rw [hk] at h;exact .inr (by have:=Option.some.inj h;omega)
theorem ji {α:Type} {R:Rd α} {size:Nat} {e:TypeId} {A:Option Addr} {n c:Nat} {xs:List α} {j:Nat} (h:D[j]?=some (ah R size e A n c xs)):∀ w,All D w→um R size w 0 e (fun _=>False) A n c xs :=
 fun w ha=>Bf.1 ha _ (List.mem_of_getElem? h)
theorem Ah {g:Nat} {cs:Array Value} {e:TypeId} {j:Nat} (h:D[j]?=some (dw g cs e)):∀ w,All D w→w.heap[g]?=some (.cells cs e (0,0)) :=
 fun w ha=>Bf.1 ha _ (List.mem_of_getElem? h)
theorem D5 {α:Type} {R:Rd α} {size g:Nat} {cs:Array Value} {e:TypeId} {w:World} {x:α} (h:w.heap[g]?=some (.cells cs e (0,0))) (hl:cs.size=size) (hR:R w (fun _=>True) cs.toList x):∃ S,ql R size w S (some ⟨g,0,none⟩) [x] :=
 ⟨fun _=>True,fun _=>⟨g,0,rfl,trivial,fun j y hj=>by
  have hj0:j=0:=by
   rcases Nat.eq_zero_or_pos j with h0 | h0
   ·exact h0
   ·rw [List.getElem?_eq_none (by simp;omega)] at hj;cases hj
  subst hj0
  simp at hj
  subst hj
  exact ⟨cs.toList,by simpa using hl,fun i c hc=>by rw [Nat.zero_mul,Nat.zero_add];exact (Dj h i c (by simpa using hc)).1,hR⟩⟩⟩
def au (A:Option Addr):Nat:=match A with | some a=>a.block | none=>0
def ay (A:Option Addr):Nat:=match A with | some a=>a.off | none=>0
theorem qly {t e:TypeId} (ht:P.underlying t=some (.slice e)) {size bytes:Nat} {z:Value} (hinfo:(P.info? e).map (fun i=>(i.zero,i.size,i.bytes))=some (some z,size,bytes)) {b off n c j:Nat} {k:IntKind} (hj:j < n) (w:World) :
  (Instr.indexAt t (.slice (some ⟨b,off,none⟩) n c) (.int k (j:Int))).run P w = .ok (.pointer (some ⟨b,off+j * size,none⟩)) w:=by
 obtain ⟨i,hi,hz,hsz,hby⟩:=info_parts hinfo
 have he:P.elem t=e:=by simp [Program.elem,ht]
 rw [run_indexAt_slice (P:=P) w t ⟨b,off,none⟩ n c k j (by rw [he];exact ht),if_pos ⟨by omega,by omega⟩,he]
 simp [sizeOf,typeInfo,hi,hsz,Addr.add_mid]
section
variable {α:Type} {R:Rd α} {size:Nat} {tc:α→Array Value}
theorem Zy {w:World} {S:Nat→Prop} {A:Option Addr} {xs:List α} (hR:∀ (w:World) (S:Nat→Prop) (cs:List Value) (x:α),R w S cs x→cs=(tc x).toList) (h:ql R size w S A xs) {j:Nat} {x:α} (hx:xs[j]?=some x):∃ b off,A=some ⟨b,off,none⟩∧S b∧∀ (i:Nat) (v:Value),(tc x)[i]?=some v→w.cell? ⟨b,off+j * size+i,none⟩=some v:=by
 obtain ⟨b,off,e,hb,hc⟩:=h (by have:=(List.getElem?_eq_some_iff.1 hx).1;omega)
 obtain ⟨cs,hl,hcs,hr⟩:=hc j x hx
 refine ⟨b,off,e,hb,fun i v hv=>hcs i v ?_⟩
 rw [hR _ _ _ _ hr]
 simpa using hv
theorem yw {t e:TypeId} (ht:P.underlying t=some (.slice e)) {bytes:Nat} {z:Value} (hinfo:(P.info? e).map (fun i=>(i.zero,i.size,i.bytes))=some (some z,size,bytes)) (hR:∀ (w:World) (S:Nat→Prop) (cs:List Value) (x:α),R w S cs x→cs=(tc x).toList) {B:Nat} (hB:B≤w0.heap.size) {A:Option Addr} {xs:List α} (h:ql R size w0 (Lt B) A xs) {n c:Nat} (hn:xs.length=n) {j:Nat} (hj:j < n) {k:IntKind} :
  jd P w0 D (Instr.indexAt t (.slice A n c) (.int k (j:Int))) (.pointer (some ⟨au A,ay A+j * size,none⟩)):=by
 obtain ⟨b,off,rfl,hb,_⟩:=Zy hR h (List.getElem?_eq_getElem (show j < xs.length by omega))
 exact fun w _ _=>qly ht hinfo hj w
theorem qa0 (hR:∀ (w:World) (S:Nat→Prop) (cs:List Value) (x:α),R w S cs x→cs=(tc x).toList) {B:Nat} (hB:B≤w0.heap.size) {A:Option Addr} {xs:List α} (h:ql R size w0 (Lt B) A xs) {j:Nat} {x:α} (hx:xs[j]?=some x):o7 w0 D (au A) (ay A+j * size) (tc x):=by
 obtain ⟨b,off,rfl,hb,hc⟩:=Zy hR h hx
 intro w hw _ i v hv
 exact (hw.cell (p:=⟨b,off+j * size+i,none⟩) (show b < w0.heap.size from Nat.lt_of_lt_of_le hb hB)).trans (hc i v hv)
theorem Gn {t e:TypeId} (ht:P.underlying t=some (.slice e)) {bytes:Nat} {z:Value} (hinfo:(P.info? e).map (fun i=>(i.zero,i.size,i.bytes))=some (some z,size,bytes)) {A:Option Addr} {n c:Nat} {xs:List α} (h:∀ w,All D w→um R size w 0 e (fun _=>False) A n c xs) {j:Nat} (hj:j < n) {k:IntKind} :
  jd P w0 D (Instr.indexAt t (.slice A n c) (.int k (j:Int))) (.pointer (some ⟨au A,ay A+j * size,none⟩)):=by
 intro w hw ha
 obtain ⟨g,rfl,_,_⟩:=(h w ha).Eo (by omega)
 exact qly ht hinfo hj w
theorem Hw (hK:qc2 R) (hs0:0 < size) (hR:∀ (w:World) (S:Nat→Prop) (cs:List Value) (x:α),R w S cs x→cs=(tc x).toList) {e:TypeId} {A:Option Addr} {n c:Nat} {xs:List α} (h:∀ w,All D w→um R size w 0 e (fun _=>False) A n c xs) {j:Nat} {x:α} (hx:xs[j]?=some x):o7 w0 D (au A) (ay A+j * size) (tc x):=by
 intro w hw ha i v hv
 obtain ⟨b,off,rfl,_,hc⟩:=Zy hR ((h w ha).reads hK hs0) hx
 exact hc i v hv
end
theorem qjw {t e:TypeId} (ht:P.underlying t=some (.slice e)) {size bytes:Nat} {z:Value} (hinfo:(P.info? e).map (fun i=>(i.zero,i.size,i.bytes))=some (some z,size,bytes)) (A:Option Addr) (n c lo hi:Nat) {x y:Int} (hx:x=lo) (hy:y=hi) (h1:lo≤hi) (h2:hi≤c) (w:World) :
  (Instr.sliceAt t (.slice A n c) (some (.int .i64 x)) (some (.int .i64 y)) none).run P w = .ok (.slice (cutAt A c lo size) (hi - lo) (c - lo)) w:=by
 subst hx hy
 obtain ⟨i,hi',_,hsz,_⟩:=info_parts hinfo
 have he:P.elem t=e:=by simp [Program.elem,ht]
 have hs:(Instr.sliceAt t (.slice A n c) (some (.int .i64 (lo:Int))) (some (.int .i64 (hi:Int))) none).run P w=(Instr.slice t (.slice A n c) (some (.int .i64 (lo:Int))) (some (.int .i64 (hi:Int))) none).run P w:=by
  unfold Instr.sliceAt
  rw [Sem.run_bind,run_underlying ht w]
  rfl
 rw [hs,run_slice_lh (P:=P) (w:=w) t A n c (by rw [he];exact ht) .i64 .i64 (lo:Int) (hi:Int) (by omega) (by omega) (by omega),he]
 rcases A with _ | ⟨b,off,sp⟩
 ·simp [sizeOf,typeInfo,hi',hsz,Result.andThen,sliced,cutAt]
 ·by_cases hc:c=lo
  ·simp [sizeOf,typeInfo,hi',hsz,Result.andThen,sliced,cutAt,hc]
  ·simp [sizeOf,typeInfo,hi',hsz,Result.andThen,sliced,cutAt,hc]
theorem ou {α:Type} {xs:List α} {j:Nat} {z:α} (h:j < xs.length):xs[j]?=some (xs.getD j z):=by simp [List.getD,List.getElem?_eq_getElem h]
theorem lg {x y:Int} (h:x=y) (h1 : -9223372036854775808≤y) (h2:y≤9223372036854775807):(Value.int .i64 (IntKind.i64.wrap x)) = .int .i64 y:=by
 subst h
 rw [IntKind.wrap_i64]
 congr 1
 omega
theorem qot {α:Type} {R:Rd α} (hK:qc2 R) (hL:Leaf R) {size:Nat} {e T:TypeId} {A:Option Addr} {n c:Nat} {xs:List α} {j:Nat} {x:α} {v:Value} {vs:List Value} (hrow:∀ w,All D w→um R size w 0 e (fun _=>False) A n c xs) (hj:j < n) (hv:v.cells=vs.toArray) (hl:vs.length=size)
  (hr:∀ w,R w (fun _=>False) vs x) (hi:(P.info? T).map (·.size)=some size) :
  Hu P w0 D (Instr.storeAt T (.pointer (some ⟨au A,ay A+j * size,none⟩)) v) (ah R size e A n c xs).S Unit (fun _=>undef) (fun _=>[ah R size e A n c (xs.set j x)]):=by
 intro w hw ha
 obtain ⟨g,rfl,_,hg⟩:=(hrow w ha).Eo (by omega)
 obtain ⟨cur,hcur,hcs⟩:=(hrow w ha).cur
 have hle:j * size+size≤n * size:=by
  have:(j+1) * size≤n * size:=Nat.mul_le_mul_right _ (by omega)
  rw [Nat.succ_mul] at this;exact this
 have h1:vs.toArray.all (·.oneCell')=true:=all_oneCell_toArray (hL w _ vs x (hr w))
 have he:Instr.storeAt T (.pointer (some ⟨au (some ⟨g,0,none⟩),ay (some ⟨g,0,none⟩)+j * size,none⟩)) v=Instr.storeAt T (.pointer (some ⟨g,j * size,none⟩)) (.agg vs.toArray):=by
  simp only [Instr.storeAt,storeVar,hv,au,ay,Nat.zero_add]
  rfl
 refine ⟨(),w.setCells g (j * size) vs,?_,rfl,⟨?_,?_,?_,?_,?_⟩,Om ?_ (Ko hK) (fun k hk=>?_)⟩
 ·rw [he]
  exact qhm T hcur (by simpa using hl) (by omega) hi h1
 ·exact (Ii (Nat.zero_le _) vs _ w (Below.refl 0 w)).os
 ·exact (Ii (Nat.zero_le _) vs _ w (Below.refl 0 w)).tape
 ·exact (Ii (Nat.zero_le _) vs _ w (Below.refl 0 w)).output
 ·rw [setCells_size];exact Nat.le_refl _
 ·intro k _ hk
  refine Wu (fun e=>hk ?_) _ _ _
  subst e
  simp only [ah]
  obtain ⟨css,h1,h2,h3⟩:=hrow w ha
  obtain ⟨g',cap',hv',_,_⟩:=World.ownsRow.form h1 (by omega)
  rw [hv']
  injection hv' with e1 _ e2
  injection e1 with e1
  injection e1 with e1
  subst e1
  rfl
 ·refine (hrow w ha).put hK hj hl (hr w) _ (fun cur' hc'=>?_)
  rw [hcur] at hc'
  injection hc' with hc'
  injection hc' with hc'
  subst hc'
  have:=Va (T:=e) (g:=g) vs (j * size) w cur.toList (by simpa using hcur) (by simp;omega)
  rw [hl] at this
  exact this
 ·refine ⟨.inl hk,?_⟩
  rw [setCells_size]
  exact ((hrow w ha).block k hk).2
theorem q4c {α β:Type} (f:α→β):∀ xs:List α,(xs.map fun x=>[f x]).flatten=xs.map f
 | []=>rfl
 |x :: xs=>by simp [q4c f xs]
theorem qnu {w:World} {base n c:Nat} {e:TypeId} {k:IntKind} {A:Option Addr} {xs:List Int} {S:Nat→Prop} (h:Fg w base e k A n c xs):um (bf k) 1 w base e S A n c xs:=by
 refine ⟨xs.map fun x=>[Value.int k x],?_,?_,h.len⟩
 ·have:=h.1
  rwa [q4c]
 ·have hw:=h.2
  clear h
  induction xs with
  |nil=>trivial
  |cons x xs ih=>exact ⟨rfl,⟨rfl,hw x (by simp)⟩,ih (fun y hy=>hw y (by simp [hy]))⟩
theorem qqr {w:World} {S:Nat→Prop} {k:IntKind} : ∀ {css:List (List Value)} {xs:List Int},Each (bf k) 1 w S css xs→css.flatten=xs.map (Value.int k)∧∀ x ∈ xs,(Lit.int k x).wf=true
 | [],[],_=>⟨rfl,by simp⟩
 | [],_ :: _,h=>h.elim
 | _ :: _,[],h=>h.elim
 |cs :: css,x :: xs,h=>by
  obtain ⟨h1,h2⟩:=qqr h.2.2
  obtain ⟨rfl,hw⟩:=h.2.1
  exact ⟨by simp [h1],fun y hy=>by
   rcases List.mem_cons.1 hy with rfl | hy
   ·exact hw
   ·exact h2 y hy⟩
theorem q1n {w:World} {base n c:Nat} {e:TypeId} {k:IntKind} {A:Option Addr} {xs:List Int} {S:Nat→Prop} (h:um (bf k) 1 w base e S A n c xs):Fg w base e k A n c xs:=by
 obtain ⟨css,h1,h2,h3⟩:=h
 obtain ⟨h4,h5⟩:=qqr h2
 rw [h4] at h1
 exact ⟨h1,h5⟩
theorem qnv {t e:TypeId} {k:IntKind} {bytes n:Nat} (ht:P.underlying t=some (.slice e)) (hinfo:(P.info? e).map (fun i=>(i.zero,i.size,i.bytes))=some (some (.int k 0),1,bytes)) (hn:bytes * n≤281474976710656) (h63:n≤maxLen) :
  jw P w0 D (Instr.makeSlice t (.int .i64 (n:Int)) (.int .i64 (n:Int))) (fun _=>False) Nat (fun g=>.slice (some ⟨g,0,none⟩) n n) (fun g=>[ah (bf k) 1 e (some ⟨g,0,none⟩) n n (List.replicate n 0)]):=by
 intro w hw ha
 refine ⟨w.heap.size,_,run_make_row' t e (.int k 0) bytes ht hinfo rfl .i64 .i64 n hn (by unfold maxLen at h63;omega) w,qh6 _ _ _,Om ?_ (Ko (pz k)) (fun g hg=>?_)⟩
 ·exact qnu (Fg.new (Nat.zero_le _) (List.replicate n 0) (by rw [toList_madeCells_one];simp) (fun x hx=>by
   rw [(List.mem_replicate.1 hx).2]
   cases k<;>rfl) (by simp) h63)
 ·simp only [ah,Value.ownBlock] at hg
  have hg:=Option.some.inj hg
  exact ⟨.inr (by omega),by simp;omega⟩
theorem Af {m:Sem Value} {cs:Array Value} {e:TypeId} {r:Nat→Value} (h:(F9 P m).map (fun x=>(x.1,x.2.1))=some (cs,e)) (hk:∀ g,(F9 P m).bind (fun x=>x.2.2 g)=some (r g)):jw P w0 D m (fun _=>False) Nat r (fun g=>[dw g cs e]):=by
 obtain ⟨⟨cs',e',k⟩,h1,h2⟩:=Option.map_eq_some_iff.1 h
 simp only [Prod.mk.injEq] at h2
 obtain ⟨rfl,rfl⟩:=h2
 exact qw2 h1 (fun g=>by have:=hk g;rw [h1] at this;exact this)
theorem Zz {α:Type} {R:Rd α} (hK:qc2 R) {size:Nat} {A:Option Addr} {xs:List α} {B:Nat} (hB:B≤w0.heap.size) (h:ql R size w0 (Lt B) A xs) {w:World} (hw:Below w0.heap.size w0 w):ql R size w (Lt B) A xs :=
 h.keep hK (fun b o hb=>hw.cell (p:=⟨b,o,none⟩) (Nat.lt_of_lt_of_le hb hB)) (fun _ h=>h)
theorem zu {m:Sem Value} {X:Nat→Prop} {α:Type} {R:Rd α} {size n k:Nat} {e:TypeId} {xs ys:List α} (hn:n=k) (h:xs=ys) (hs:jw P w0 D m X (Option Addr × Nat) (fun x=>.slice x.1 n x.2) (fun x=>[ah R size e x.1 n x.2 xs])):jw P w0 D m X (Option Addr × Nat) (fun x=>.slice x.1 k x.2) (fun x=>[ah R size e x.1 k x.2 ys]):=by
 subst hn h;exact hs
theorem qu4 {m:Sem Unit} {X:Nat→Prop} {r:Unit→Value} {α:Type} {R:Rd α} {size n c:Nat} {e:TypeId} {A:Option Addr} {xs ys:List α} (h:xs=ys) (hs:Hu P w0 D m X Unit r (fun _=>[ah R size e A n c xs])):Hu P w0 D m X Unit r (fun _=>[ah R size e A n c ys]):=h▸hs
theorem qlz {e T:TypeId} {k:IntKind} {A:Option Addr} {n c:Nat} {xs:List Int} {j:Nat} {x:Int} (hrow:∀ w,All D w→um (bf k) 1 w 0 e (fun _=>False) A n c xs) (hj:j < n) (hw:(Lit.int k x).wf=true) (hi:(P.info? T).map (·.size)=some 1) :
  Hu P w0 D (Instr.storeAt T (.pointer (some ⟨au A,ay A+j * 1,none⟩)) (.int k x)) (ah (bf k) 1 e A n c xs).S Unit (fun _=>undef) (fun _=>[ah (bf k) 1 e A n c (xs.set j x)]) :=
 qot (pz k) (Fh k) (vs:=[.int k x]) hrow hj rfl rfl (fun _=>⟨rfl,hw⟩) hi
theorem qmq {a b:Fact} (h:a=b):List.Sublist [a] [b]:=by rw [h];exact List.Sublist.refl _
theorem qsf {T:TypeId} {z:Value} {size bytes:Nat} (h:(P.info? T).map (fun i=>(i.zero,i.size,i.bytes))=some (some z,size,bytes)):(P.info? T).map (·.size)=some size:=by
 obtain ⟨i,hi,hz⟩:=Option.map_eq_some_iff.1 h
 simp only [Prod.mk.injEq] at hz
 rw [hi];simp [hz.2.1]
theorem Ue {α:Type} {R:Rd α} (hK:qc2 R) (hL:Leaf R) {size bytes:Nat} {z:Value} {e T:TypeId} (hi:(P.info? T).map (fun i=>(i.zero,i.size,i.bytes))=some (some z,size,bytes)) {A:Option Addr} {n c:Nat} {xs:List α} {j:Nat} {x:α} {cs:Array Value} (hrow:∀ w,All D w→um R size w 0 e (fun _=>False) A n c xs) (hj:j < n) (hl:cs.size=size)
  (hr:∀ w,R w (fun _=>False) cs.toList x) :
  Hu P w0 D (Instr.storeAt T (.pointer (some ⟨au A,ay A+j * size,none⟩)) (.agg cs)) (ah R size e A n c xs).S Unit (fun _=>undef) (fun _=>[ah R size e A n c (xs.set j x)]) :=
 qot hK hL (vs:=cs.toList) hrow hj rfl (by simpa using hl) hr (qsf hi)
theorem qi0 {α:Type} {R:Rd α} (hK:qc2 R) {size:Nat} {m:Sem Value} {e:TypeId} (h:(F9 P m).map (fun x=>(x.1,x.2.1))=some (#[],e)) (hk:∀ g,(F9 P m).bind (fun x=>x.2.2 g)=some (.slice (some ⟨g,0,none⟩) 0 0)) :
  jw P w0 D m (fun _=>False) Nat (fun g=>.slice (some ⟨g,0,none⟩) 0 0) (fun g=>[ah R size e (some ⟨g,0,none⟩) 0 0 ([]:List α)]):=by
 intro w hw ha
 obtain ⟨x,w',h1,h2,h3⟩:=Af (w0:=w0) (D:=D) h hk w hw ha
 have hb:=h3.all.1
 simp only [dw] at hb
 have hy:=h3.ni (dw x #[] e) (by simp) x rfl
 refine ⟨x,w',h1,h2,Om ?_ (Ko hK) (fun k hk=>?_)⟩
 ·exact ⟨[],⟨by simp,.inr ⟨x,0,#[],rfl,Nat.zero_le _,hb,by omega,by unfold maxLen;omega,by simp,by simp⟩⟩,trivial,rfl⟩
 ·simp only [ah,Value.ownBlock,Option.some.injEq] at hk
  subst hk;exact hy
def Agree (S:Nat→Prop) (w w' : World):Prop := ∀ k,S k→w'.heap[k]?=w.heap[k]?
theorem Agree.alike {S:Nat→Prop} {w w' : World} (h:Agree S w w'):Alike S w w':=fun b o hb=>World.cell?_of_block (h b hb)
def C9 (W:World) (Pr:Nat→Prop):Fact:=⟨fun w => ∀ k,Pr k→w.heap[k]?=W.heap[k]?,Pr⟩
theorem qsg (W:World) (Pr:Nat→Prop):Stable (C9 W Pr):=fun w w' h hf k hk=>(h k hk).trans (hf k hk)
def qyf {β:Type} (R:World→(Nat→Prop)→β→Prop):Prop := ∀ w w' S S' b,R w S b→Agree S w w'→(∀ k,S k→S' k)→R w' S' b
def Uf (w0:World) (D:List Fact) (S:Nat→Prop) (W:World):Prop := ∀ w,Below w0.heap.size w0 w→All D w→Agree S W w∧∀ k,S k→k < w.heap.size
theorem Yi {S:Nat→Prop} (h:∀ k,S k→k < w0.heap.size):Uf w0 D S w0:=fun w hw _=>⟨fun k hk=>hw.block k (h k hk),fun k hk=>Nat.lt_of_lt_of_le (h k hk) hw.size⟩
abbrev Dat {β:Type} (R:World→(Nat→Prop)→β→Prop) (S:Nat→Prop) (W:World):Type:={ x:World × (Nat→Prop) × β // R x.1 (fun k=>S k∨x.2.1 k) x.2.2∧Agree S W x.1∧∀ k,x.2.1 k→k < x.1.heap.size }
theorem qjx {β:Type} {R:World→(Nat→Prop)→β→Prop} {S:Nat→Prop} {W:World} {f:FuncId} {args:Array Value} {r:β→Value} (hd:Uf w0 D S W)
  (hc:∀ w,Below w0.heap.size w0 w→All D w→Calls P f args w fun e w' => ∃ b,e = .returned (r b)∧Below w.heap.size w w'∧R w' (fun k=>S k∨(w.heap.size≤k∧k < w'.heap.size)) b) :
  qg P w0 D f args (Dat R S W) (fun x=>r x.1.2.2) (fun x=>[C9 x.1.1 x.1.2.1]):=fun w hw ha=>(hc w hw ha).mono (by
 rintro e w' ⟨b,rfl,hb,hR⟩
 obtain ⟨h1,h2⟩:=hd w hw ha
 refine ⟨⟨(w',(fun k=>w.heap.size≤k∧k < w'.heap.size),b),hR,fun k hk=>(hb.block k (h2 k hk)).trans (h1 k hk),fun k hk=>hk.2⟩,rfl,hb,Om (fun k _=>rfl) (qsg _ _) (fun k hk=>⟨.inr hk.1,hk.2⟩)⟩)
theorem Dat.later {β:Type} {R:World→(Nat→Prop)→β→Prop} (hK:qyf R) {S:Nat→Prop} {W:World} (x:Dat R S W) {w:World} (hS:Agree S W w) (hp:(C9 x.1.1 x.1.2.1).F w):R w (fun k=>S k∨x.1.2.1 k) x.1.2.2 :=
 hK _ _ _ _ _ x.2.1 (fun k hk=>by
  rcases hk with hk | hk
  ·exact (hS k hk).trans (x.2.2.1 k hk).symm
  ·exact hp k hk) (fun _ h=>h)
theorem Z4 {W:World} {Pr:Nat→Prop} {j:Nat} {w:World} (h:D[j]?=some (C9 W Pr)) (ha:All D w):(C9 W Pr).F w:=Bf.1 ha _ (List.mem_of_getElem? h)
theorem qmr {α:Type} {R:Rd α} (hK:qc2 R) {size:Nat} (hs:0 < size) {e:TypeId} {A:Option Addr} {n c:Nat} {xs:List α} {w:World} {S:Nat→Prop} (h:um R size w 0 e (fun _=>False) A n c xs) (hS:∀ k,(ah R size e A n c xs).S k→S k) (hF:∀ {S S' : Nat→Prop} {cs:List Value} {x:α},R w S cs x→R w S' cs x):ql R size w S A xs:=fun h0=>by
 have hl:=h.len
 obtain ⟨g,rfl,_,_⟩:=h.Eo (by omega)
 obtain ⟨b,off,e,hb,hc⟩:=h.reads hK hs h0
 injection e with e
 injection e with e1 e2
 subst e1 e2
 exact ⟨_,_,rfl,hS _ rfl,fun j x hx=>by
  obtain ⟨cs,h1,h2,h3⟩:=hc j x hx
  exact ⟨cs,h1,h2,hF h3⟩⟩
theorem Gp {T:TypeId} {v:Value} {x:Int} {j:Nat} {k:IntKind} {r:Value} (hx:x=(j:Int)) (h:jd P w0 D (Instr.indexAt T v (.int k (j:Int))) r):jd P w0 D (Instr.indexAt T v (.int k x)) r:=by
 subst hx;exact h
def Jq {α:Type} (R:Rd α) (size:Nat) (e:TypeId) (A:Option Addr) (n c:Nat):Fact :=
 ⟨fun w => ∃ xs:List α,um R size w 0 e (fun _=>False) A n c xs,fun k=>(Value.slice A n c).ownBlock=some k⟩
theorem Pq {α:Type} {R:Rd α} {size:Nat} {t e:TypeId} (ht:P.underlying t=some (.slice e)) {bytes:Nat} {z:Value} (hinfo:(P.info? e).map (fun i=>(i.zero,i.size,i.bytes))=some (some z,size,bytes)) {A:Option Addr} {n c:Nat} {i:Nat} (h:D[i]?=some (Jq R size e A n c)) {j:Nat} (hj:j < n) {k:IntKind} :
  jd P w0 D (Instr.indexAt t (.slice A n c) (.int k (j:Int))) (.pointer (some ⟨au A,ay A+j * size,none⟩)):=by
 intro w hw ha
 obtain ⟨xs,hx⟩:=Bf.1 ha _ (List.mem_of_getElem? h)
 obtain ⟨g,rfl,_,_⟩:=hx.Eo (by omega)
 exact qly ht hinfo hj w
theorem qyg {β:Type} (cur vs:List β) (a size off:Nat) (h1:off+vs.length≤size) (h2:a+size≤cur.length) :
  cur.take (a+off)++vs++cur.drop (a+off+vs.length)=cur.take a++(((cur.drop a).take size).take off++vs++((cur.drop a).take size).drop (off+vs.length))++cur.drop (a+size):=by
 have e1:cur.take (a+off)=cur.take a++(cur.drop a).take off:=by rw [List.take_add]
 have e2:((cur.drop a).take size).take off=(cur.drop a).take off:=by rw [List.take_take,Nat.min_eq_left (by omega)]
 have e3:((cur.drop a).take size).drop (off+vs.length)++cur.drop (a+size)=cur.drop (a+off+vs.length):=by
  have h3:cur.drop (a+off+vs.length)=((cur.drop a).take size++(cur.drop a).drop size).drop (off+vs.length):=by
   rw [List.take_append_drop,List.drop_drop];congr 1;omega
  rw [h3,List.drop_append_of_le_length (by simp;omega),List.drop_drop]
 rw [e1,e2]
 simp only [List.append_assoc]
 rw [e3]
theorem qw3 {α:Type} {R:Rd α} (hK:qc2 R) (hL:Leaf R) {size:Nat} {tc:α→Array Value} (hR:∀ (w:World) (S:Nat→Prop) (cs:List Value) (x:α),R w S cs x→cs=(tc x).toList) (hts:∀ x,(tc x).size=size) {e T:TypeId} {A:Option Addr} {n c:Nat} {xs:List α} {j off:Nat} {x x' : α} {v:Value} {vs:List Value} (hrow:∀ w,All D w→um R size w 0 e (fun _=>False) A n c xs) (hj:j < n) (hx:xs[j]?=some x) (hv:v.cells=vs.toArray)
  (hk:off+vs.length≤size) (hnew:(tc x).toList.take off++vs++(tc x).toList.drop (off+vs.length)=(tc x').toList) (hr:∀ w,R w (fun _=>False) (tc x').toList x') (h1:∀ c ∈ vs,c.oneCell'=true) (hi:(P.info? T).map (·.size)=some vs.length) :
  Hu P w0 D (Instr.storeAt T (.pointer (some ⟨au A,ay A+j * size+off,none⟩)) v) (ah R size e A n c xs).S Unit (fun _=>undef) (fun _=>[ah R size e A n c (xs.set j x')]):=by
 intro w hw ha
 obtain ⟨g,rfl,_,hg⟩:=(hrow w ha).Eo (by omega)
 obtain ⟨cur,hcur,hcs⟩:=(hrow w ha).cur
 have hle:j * size+size≤n * size:=by
  have:(j+1) * size≤n * size:=Nat.mul_le_mul_right _ (by omega)
  rw [Nat.succ_mul] at this;exact this
 have hs0:(tc x).size=size:=hts x
 have hin:(cur.toList.drop (j * size)).take size=(tc x).toList:=by
  rcases Nat.eq_zero_or_pos size with h0 | h0
  ·rw [h0];have:(tc x).toList.length=0:=by simp [hs0,h0]
   rw [List.eq_nil_of_length_eq_zero this];rfl
  obtain ⟨b,o,he,_,hc⟩:=Zy hR ((hrow w ha).reads hK h0) hx
  injection he with he
  injection he with e1 e2
  subst e1 e2
  apply List.ext_getElem?
  intro i
  rw [List.getElem?_take]
  by_cases hi' : i < size
  ·rw [if_pos hi',List.getElem?_drop]
   have h3:(tc x)[i]?=some ((tc x)[i]'(by omega)):=Array.getElem?_eq_getElem (by omega)
   have h4:=hc i _ h3
   rw [Array.getElem?_toList,Array.getElem?_toList,h3]
   have h5:cur[j * size+i]?=some (cur[j * size+i]'(by omega)):=Array.getElem?_eq_getElem (by omega)
   have h6:=(Dj hcur (j * size+i) _ h5).1
   rw [Nat.zero_add] at h4
   rw [h4] at h6
   rw [h5]
   exact h6.symm
  ·rw [if_neg hi',List.getElem?_eq_none (by simp;omega)]
 have hall:vs.toArray.all (·.oneCell')=true:=all_oneCell_toArray h1
 have he:Instr.storeAt T (.pointer (some ⟨au (some ⟨g,0,none⟩),ay (some ⟨g,0,none⟩)+j * size+off,none⟩)) v=Instr.storeAt T (.pointer (some ⟨g,j * size+off,none⟩)) (.agg vs.toArray):=by
  simp only [Instr.storeAt,storeVar,hv,au,ay,Nat.zero_add]
  rfl
 refine ⟨(),w.setCells g (j * size+off) vs,?_,rfl,⟨?_,?_,?_,?_,?_⟩,Om ?_ (Ko hK) (fun k hk=>?_)⟩
 ·rw [he]
  exact qhm T hcur (by simp) (by omega) hi hall
 ·exact (Ii (Nat.zero_le _) vs _ w (Below.refl 0 w)).os
 ·exact (Ii (Nat.zero_le _) vs _ w (Below.refl 0 w)).tape
 ·exact (Ii (Nat.zero_le _) vs _ w (Below.refl 0 w)).output
 ·rw [setCells_size];exact Nat.le_refl _
 ·intro k _ hk
  refine Wu (fun e=>hk ?_) _ _ _
  subst e
  simp only [ah]
  obtain ⟨css,h1,h2,h3⟩:=hrow w ha
  obtain ⟨g',cap',hv',_,_⟩:=World.ownsRow.form h1 (by omega)
  rw [hv']
  injection hv' with e1 _ e2
  injection e1 with e1
  injection e1 with e1
  subst e1
  rfl
 ·refine (hrow w ha).put hK hj (cs:=(tc x').toList) (by simpa using hts x') (hr w) _ (fun cur' hc'=>?_)
  rw [hcur] at hc'
  injection hc' with hc'
  injection hc' with hc'
  subst hc'
  have:=Va (T:=e) (g:=g) vs (j * size+off) w cur.toList (by simpa using hcur) (by simp;omega)
  rw [this,qyg cur.toList vs (j * size) size off hk (by simp;omega),hin,hnew]
 ·refine ⟨.inl hk,?_⟩
  rw [setCells_size]
  exact ((hrow w ha).block k hk).2
theorem qk2 {α:Type} {R:Rd α} {size:Nat} {tc:α→Array Value} (hR:∀ (w:World) (S:Nat→Prop) (cs:List Value) (x:α),R w S cs x→cs=(tc x).toList) (hts:∀ x,0 < (tc x).size) (hF:∀ {w:World} {S S' : Nat→Prop} {cs:List Value} {x:α},R w S cs x→R w S' cs x) {w:World} {S:Nat→Prop} {A:Option Addr} {xs:List α} (h:ql R size w S A xs):ql R size w (Lt w.heap.size) A xs:=fun h0=>by
 obtain ⟨b,off,e,hb,hc⟩:=h h0
 obtain ⟨b',off',e',_,hc'⟩:=Zy hR h (List.getElem?_eq_getElem h0)
 rw [e] at e'
 injection e' with e'
 injection e' with e1 e2
 subst e1 e2
 refine ⟨b,off,e,?_,fun j x hx=>?_⟩
 ·exact block_lt_of_cell (hc' 0 _ (Array.getElem?_eq_getElem (hts _)))
 ·obtain ⟨cs,h1,h2,h3⟩:=hc j x hx
  exact ⟨cs,h1,h2,hF h3⟩
end Go.Proofs.YtbbjlfbemibfcaaGreat
