/-
  Whole, OwnEl
-/
import Derived.Test.YtcpahggkioagkaaMvf05
import Derived.Deep.MidRow
import Derived.Test.YtcpahggkioagkaaMvf09
set_option linter.unusedVariables false
set_option linter.unusedSimpArgs false
section
namespace Go.Proofs.Ytcpahggkioagkaa
set_option maxRecDepth 20000
open Go.RowKit
theorem setCells_row {g:Nat} {T:TypeId} : ∀ (vs:List Value) (o:Nat) (w:World) (cs:List Value),w.heap[g]?=some (.cells cs.toArray T (0,0))→o+vs.length≤cs.length →
  (w.setCells g o vs).heap[g]?=some (.cells (cs.take o++vs++cs.drop (o+vs.length)).toArray T (0,0))
 | [],o,w,cs,h,hl=>by simpa [World.setCells] using h
 |v :: vs,o,w,cs,h,hl=>by
  simp only [List.length_cons] at hl
  have h1:(w.setCell ⟨g,o,none⟩ v).heap[g]?=some (.cells (cs.set o v).toArray T (0,0)):=by
   have:=heap_setCell_same w g o _ T v h
   simpa using this
  have h2:=setCells_row vs (o+1) (w.setCell ⟨g,o,none⟩ v) (cs.set o v) h1 (by simp;omega)
  rw [World.setCells,h2]
  congr 2
  have e1:(cs.set o v).take (o+1)=cs.take o++[v]:=by
   apply List.ext_getElem?
   intro i
   rw [List.getElem?_take]
   by_cases hi:i < o+1
   ·rw [if_pos hi,List.getElem?_set]
    by_cases ho:o=i
    ·subst ho
     rw [if_pos rfl,if_pos (by omega),List.getElem?_append_right (by simp;omega)]
     simp [show o - min o cs.length=0 by omega]
    ·rw [if_neg ho,List.getElem?_append_left (by simp;omega),List.getElem?_take,if_pos (by omega)]
   ·rw [if_neg hi]
    symm
    apply List.getElem?_eq_none
    simp;omega
  have e2:(cs.set o v).drop (o+1+vs.length)=cs.drop (o+(v :: vs).length):=by
   rw [List.drop_set]
   rw [if_pos (by omega),List.length_cons,show o+1+vs.length=o+(vs.length+1) by omega]
  rw [e1,e2]
  simp
theorem setCells_size (g:Nat):∀ (vs:List Value) (o:Nat) (w:World),(w.setCells g o vs).heap.size=w.heap.size
 | [],_,_=>rfl
 |v :: vs,o,w=>by rw [World.setCells,setCells_size g vs (o+1)];simp [World.setCell]
theorem setCells_other {g k:Nat} (hk:k≠g):∀ (vs:List Value) (o:Nat) (w:World),(w.setCells g o vs).heap[k]?=w.heap[k]?
 | [],_,_=>rfl
 |v :: vs,o,w=>by rw [World.setCells,setCells_other hk vs (o+1),Below.heap_setCell _ _ _ _ (by simpa using hk)]
theorem setCells_below {B g:Nat} {w0:World} (hg:B≤g):∀ (vs:List Value) (o:Nat) (w:World),Below B w0 w→Below B w0 (w.setCells g o vs)
 | [],_,_,h=>h
 |v :: vs,o,w,h=>by rw [World.setCells];exact setCells_below hg vs (o+1) _ (h.setCell (p:=⟨g,o,none⟩) hg v)
def World.whole (w:World) (g n:Nat) (T:TypeId):Prop := ∃ cs,w.heap[g]?=some (.cells cs T (0,0))∧cs.size=n
def World.setAll (w:World) (g:Nat) (vs:Array Value):World:=w.setCells g 0 vs.toList
theorem whole_of {w:World} {g:Nat} {T:TypeId} {cs:Array Value} (h:w.heap[g]?=some (.cells cs T (0,0))) {n:Nat} (hn:cs.size=n):World.whole w g n T:=⟨cs,h,hn⟩
theorem run_store_whole {P:Program} {w:World} {g n:Nat} {vs:Array Value} {T:TypeId} (ty:TypeId) (h:World.whole w g n T) (hl:vs.size=n) (hi:(P.info? ty).map (·.size)=some n) (h1:vs.all (·.oneCell')=true) :
  (Instr.storeAt ty (.pointer (some ⟨g,0,none⟩)) (.agg vs)).run P w = .ok () (World.setAll w g vs):=by
 obtain ⟨cs,h,hn⟩:=h
 refine run_storeAt_mid w g 0 ty vs (fun j hj=>?_) (by rw [hl];exact hi) h1
 obtain ⟨v,hv⟩:∃ v,cs[j]?=some v:=⟨cs[j]'(by omega),Array.getElem?_eq_getElem (by omega)⟩
 have:=block_cell h j v hv
 rw [Nat.zero_add]
 exact ⟨by rw [this.1];rfl,this.2⟩
theorem wpList_store_whole {P:Program} {w:World} {ops:Array Oper} {rest:List Oper} {a:Act} {Q:Exit→Act→World→Prop} {t' : TypeId} {pos:String} {after:Array Edge} (ty:TypeId) (x y:Operand) (g n:Nat) (vs:Array Value) (T:TypeId)
  (hx:a.eval x = .pointer (some ⟨g,0,none⟩)) (hy:a.eval y = .agg vs) (hw:World.whole w g n T) (hl:vs.size=n) (hi:(P.info? ty).map (·.size)=some n) (h1:vs.all (·.oneCell')=true)
  (h:wpList P ops Q rest (a.put none undef) (World.setAll w g vs)):wpList P ops Q (⟨none,.store ty x y,t',pos,after,none⟩ :: rest) a w:=by
 refine wpList_plain rfl fun K hK=>?_
 unfold Oper.wp execOp
 have:=run_store_whole (P:=P) ty hw hl hi h1
 simp only [hx,hy,Sem.run_bind,Sem.run_pure,Result.andThen_ok,this]
 exact hK _ _ h
theorem setAll_self {w:World} {g n:Nat} {vs:Array Value} {T:TypeId} (h:World.whole w g n T) (hl:vs.size=n):(World.setAll w g vs).heap[g]?=some (.cells vs T (0,0)):=by
 obtain ⟨cs,h,hn⟩:=h
 have:=setCells_row (g:=g) (T:=T) vs.toList 0 w cs.toList (by simpa using h) (by simp;omega)
 unfold World.setAll
 rw [this]
 congr 2
 apply Array.ext'
 simp [List.drop_of_length_le,hl,hn]
theorem setAll_below {w w0:World} {B g:Nat} {vs:Array Value} (hb:Below B w0 w) (hg:B≤g):Below B w0 (World.setAll w g vs):=setCells_below hg _ _ _ hb
end Go.Proofs.Ytcpahggkioagkaa
end
section
namespace Go.Proofs.Ytcpahggkioagkaa
set_option maxRecDepth 20000
open Go.RowKit
theorem ownsRow_later {w w' : World} {base n size:Nat} {e:TypeId} {v:Value} {xs:List Value} (h:w.ownsRow base e size v n xs) (hb:Below w.heap.size w w'):w'.ownsRow base e size v n xs:=by
 refine ⟨h.1,?_⟩
 rcases h.2 with h0 | ⟨g,cap,cur,hv,h1,h2,h3⟩
 ·exact .inl h0
 ·have hl:g < w.heap.size:=by
   rcases Nat.lt_or_ge g w.heap.size with hl | hg
   ·exact hl
   ·rw [Array.getElem?_eq_none hg] at h2;cases h2
  exact .inr ⟨g,cap,cur,hv,h1,(hb.block g hl).trans h2,h3⟩
section
variable {α:Type} {R:Rd α} {size:Nat} {w w' : World} {base:Nat} {e:TypeId} {S S' : Nat→Prop} {A:Option Addr} {n c:Nat} {xs:List α}
theorem OwnElems.later (hR:Keeps R) (h:OwnElems R size w base e (fun _=>False) A n c xs) (hb:Below w.heap.size w w'):OwnElems R size w' base e (fun _=>False) A n c xs:=by
 obtain ⟨css,h1,h2,h3⟩:=h
 exact ⟨css,ownsRow_later h1 hb,h2.keep hR (fun _ _ h=>h.elim) (fun _ h=>h),h3⟩
theorem OwnElems.reads (hR:Keeps R) (hs:0 < size) (h:OwnElems R size w base e (fun _=>False) A n c xs):Elems R size w (Lt w.heap.size) A xs :=
 h.elems hR hs (fun _ h=>h.elim) (fun g _ hg=>hg)
theorem OwnElems.where_ (h:OwnElems R size w base e S A n c xs) (hn:0 < n):∃ g,A=some ⟨g,0,none⟩∧base≤g∧g < w.heap.size:=by
 obtain ⟨css,h1,h2,h3⟩:=h
 obtain ⟨g,cap,hv,hb,hlt⟩:=World.ownsRow.form h1 hn
 injection hv with hv1
 exact ⟨g,hv1,hb,hlt⟩
end
theorem flatten_put {α:Type} {size:Nat} : ∀ (css:List (List α)) (j:Nat) (cs:List α),(∀ x ∈ css,x.length=size)→j < css.length→cs.length=size →
  (css.set j cs).flatten=css.flatten.take (j * size)++cs++css.flatten.drop (j * size+size)
 | [],j,cs,_,hj,_=>by simp at hj
 |x :: css,0,cs,h,_,hc=>by
  have hx:=h x (by simp)
  simp [← hx]
 |x :: css,j+1,cs,h,hj,hc=>by
  have hx:=h x (by simp)
  have ih:=flatten_put css j cs (fun y hy=>h y (by simp [hy])) (by simpa using hj) hc
  rw [List.set_cons_succ,List.flatten_cons,ih,List.flatten_cons]
  have e1:(j+1) * size=x.length+j * size:=by rw [hx,Nat.succ_mul];omega
  rw [e1,List.take_length_add_append,Nat.add_assoc,List.drop_length_add_append]
  simp
theorem Each.set {α:Type} {R:Rd α} {size:Nat} {w:World} {S:Nat→Prop} : ∀ {css:List (List Value)} {xs:List α} (j:Nat) {cs:List Value} {x:α},Each R size w S css xs→cs.length=size→R w S cs x→Each R size w S (css.set j cs) (xs.set j x)
 | [],[],j,_,_,_,_,_=>trivial
 | [],_ :: _,_,_,_,h,_,_=>h.elim
 | _ :: _,[],_,_,_,h,_,_=>h.elim
 | _ :: _,_ :: _,0,_,_,h,hl,hr=>⟨hl,hr,h.2.2⟩
 | _ :: _,_ :: _,j+1,_,_,h,hl,hr=>⟨h.1,h.2.1,Each.set j h.2.2 hl hr⟩
theorem Each.lens {α:Type} {R:Rd α} {size:Nat} {w:World} {S:Nat→Prop} : ∀ {css:List (List Value)} {xs:List α},Each R size w S css xs→∀ x ∈ css,x.length=size
 | [],_,_,_,hx=>by simp at hx
 | _ :: _,[],h,_,_=>h.elim
 | _ :: _,_ :: _,h,x,hx=>by
  rcases List.mem_cons.1 hx with rfl | hx
  ·exact h.1
  ·exact Each.lens h.2.2 x hx
theorem take_put {α:Type} (l:List α) (o:Nat) (vs:List α) (N:Nat) (h:o+vs.length≤N) (hN:N≤l.length) :
  (l.take o++vs++l.drop (o+vs.length)).take N=(l.take N).take o++vs++(l.take N).drop (o+vs.length):=by
 have h1:(l.take o++vs).length=o+vs.length:=by simp;omega
 rw [List.take_append,h1,List.take_of_length_le (by rw [h1];exact h),List.take_take,Nat.min_eq_left (by omega),List.drop_take]
theorem OwnElems.put {α:Type} {R:Rd α} (hR:Keeps R) {size:Nat} {w:World} {base:Nat} {e:TypeId} {g n c:Nat} {xs:List α} (h:OwnElems R size w base e (fun _=>False) (some ⟨g,0,none⟩) n c xs) {j:Nat} (hj:j < n) {cs:List Value} {x:α} (hl:cs.length=size) (hr:R w (fun _=>False) cs x) (w' : World)
  (hw:∀ cur,w.heap[g]?=some (.cells cur e (0,0))→w'.heap[g]?=some (.cells (cur.toList.take (j * size)++cs++cur.toList.drop (j * size+size)).toArray e (0,0))):OwnElems R size w' base e (fun _=>False) (some ⟨g,0,none⟩) n c (xs.set j x):=by
 obtain ⟨css,h1,h2,h3⟩:=h
 obtain ⟨hl1,h4⟩:=h1
 have hcl:=h2.len.1
 have hfl:=flatten_put css j cs h2.lens (by omega) hl
 rcases h4 with ⟨hv,_⟩ | ⟨g',cap,cur,hv,hb,hg,hnc,hcm,hsz,hcur⟩
 ·simp at hv
 simp only [Value.slice.injEq,Option.some.injEq,Addr.mk.injEq,and_true,true_and] at hv
 obtain ⟨rfl,rfl⟩:=hv
 have hle:j * size+size≤n * size:=by
  have:(j+1) * size≤n * size:=Nat.mul_le_mul_right _ (by omega)
  rw [Nat.succ_mul] at this;exact this
 have hle2:n * size≤c * size:=Nat.mul_le_mul_right _ hnc
 have hlen:cur.toList.length=c * size:=by simpa using hsz
 refine ⟨css.set j cs,⟨?_,.inr ⟨g,c,_,rfl,hb,hw cur hg,hnc,hcm,?_,?_⟩⟩,(h2.set j hl hr).keep hR (fun _ _ h=>h.elim) (fun _ h=>h),by rw [List.length_set];exact h3⟩
 ·rw [hfl,List.length_append,List.length_append,List.length_take,List.length_drop,hl1,hl];omega
 ·simp only [List.size_toArray,List.length_append,List.length_take,List.length_drop,hlen,hl];omega
 ·have:=take_put cur.toList (j * size) cs (n * size) (by rw [hl];exact hle) (by omega)
  rw [hl] at this
  rw [hfl]
  simp only
  rw [this,hcur]
theorem run_store_elem {P:Program} {w:World} {g o n:Nat} {vs:Array Value} {T:TypeId} (ty:TypeId) {cur:Array Value} (h:w.heap[g]?=some (.cells cur T (0,0))) (hl:vs.size=n) (ho:o+n≤cur.size) (hi:(P.info? ty).map (·.size)=some n) (h1:vs.all (·.oneCell')=true) :
  (Instr.storeAt ty (.pointer (some ⟨g,o,none⟩)) (.agg vs)).run P w = .ok () (w.setCells g o vs.toList):=by
 refine run_storeAt_mid w g o ty vs (fun j hj=>?_) (by rw [hl];exact hi) h1
 obtain ⟨v,hv⟩:∃ v,cur[o+j]?=some v:=⟨cur[o+j]'(by omega),Array.getElem?_eq_getElem (by omega)⟩
 have:=block_cell h (o+j) v hv
 exact ⟨by rw [this.1];rfl,this.2⟩
theorem OwnElems.cur {α:Type} {R:Rd α} {size:Nat} {w:World} {base:Nat} {e:TypeId} {S:Nat→Prop} {g n c:Nat} {xs:List α} (h:OwnElems R size w base e S (some ⟨g,0,none⟩) n c xs):∃ cur,w.heap[g]?=some (.cells cur e (0,0))∧n * size≤cur.size:=by
 obtain ⟨css,h1,h2,h3⟩:=h
 rcases h1.2 with ⟨hv,_⟩ | ⟨g',cap,cur,hv,hb,hg,hnc,hcm,hsz,hcur⟩
 ·simp at hv
 simp only [Value.slice.injEq,Option.some.injEq,Addr.mk.injEq,and_true,true_and] at hv
 obtain ⟨rfl,rfl⟩:=hv
 exact ⟨cur,hg,by rw [hsz];exact Nat.mul_le_mul_right _ hnc⟩
end Go.Proofs.Ytcpahggkioagkaa
end
