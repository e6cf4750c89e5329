/-
  Whole
-/
import Derived.Test.YtcpahggkioagkaaMvr05
import Derived.Deep.MidRow
set_option linter.unusedVariables false
set_option linter.unusedSimpArgs false
namespace Go.Proofs.Ytcpahggkioagkaa
set_option maxRecDepth 20000
open Go.RowKit
theorem setCells_row {g:Nat} {T:TypeId} : ∀ (vs:List Value) (o:Nat) (w:World) (cs:List Value),w.heap[g]?=some (.cells cs.toArray T (0,0))→o+vs.length≤cs.length →
  (w.setCells g o vs).heap[g]?=some (.cells (cs.take o++vs++cs.drop (o+vs.length)).toArray T (0,0))
 | [],o,w,cs,h,hl=>by simpa [World.setCells] using h
 |v :: vs,o,w,cs,h,hl=>by
  simp only [List.length_cons] at hl
  have h1:(w.setCell ⟨g,o,none⟩ v).heap[g]?=some (.cells (cs.set o v).toArray T (0,0)):=by
   have:=heap_setCell_same w g o _ T v h
   simpa using this
  have h2:=setCells_row vs (o+1) (w.setCell ⟨g,o,none⟩ v) (cs.set o v) h1 (by simp;omega)
  rw [World.setCells,h2]
  congr 2
  have e1:(cs.set o v).take (o+1)=cs.take o++[v]:=by
   apply List.ext_getElem?
   intro i
   rw [List.getElem?_take]
   by_cases hi:i < o+1
   ·rw [if_pos hi,List.getElem?_set]
    by_cases ho:o=i
    ·subst ho
     rw [if_pos rfl,if_pos (by omega),List.getElem?_append_right (by simp;omega)]
     simp [show o - min o cs.length=0 by omega]
    ·rw [if_neg ho,List.getElem?_append_left (by simp;omega),List.getElem?_take,if_pos (by omega)]
   ·rw [if_neg hi]
    symm
    apply List.getElem?_eq_none
    simp;omega
  have e2:(cs.set o v).drop (o+1+vs.length)=cs.drop (o+(v :: vs).length):=by
   rw [List.drop_set]
   rw [if_pos (by omega),List.length_cons,show o+1+vs.length=o+(vs.length+1) by omega]
  rw [e1,e2]
  simp
theorem setCells_size (g:Nat):∀ (vs:List Value) (o:Nat) (w:World),(w.setCells g o vs).heap.size=w.heap.size
 | [],_,_=>rfl
 |v :: vs,o,w=>by rw [World.setCells,setCells_size g vs (o+1)];simp [World.setCell]
theorem setCells_other {g k:Nat} (hk:k≠g):∀ (vs:List Value) (o:Nat) (w:World),(w.setCells g o vs).heap[k]?=w.heap[k]?
 | [],_,_=>rfl
 |v :: vs,o,w=>by rw [World.setCells,setCells_other hk vs (o+1),Below.heap_setCell _ _ _ _ (by simpa using hk)]
theorem setCells_below {B g:Nat} {w0:World} (hg:B≤g):∀ (vs:List Value) (o:Nat) (w:World),Below B w0 w→Below B w0 (w.setCells g o vs)
 | [],_,_,h=>h
 |v :: vs,o,w,h=>by rw [World.setCells];exact setCells_below hg vs (o+1) _ (h.setCell (p:=⟨g,o,none⟩) hg v)
def World.whole (w:World) (g n:Nat) (T:TypeId):Prop := ∃ cs,w.heap[g]?=some (.cells cs T (0,0))∧cs.size=n
def World.setAll (w:World) (g:Nat) (vs:Array Value):World:=w.setCells g 0 vs.toList
theorem whole_of {w:World} {g:Nat} {T:TypeId} {cs:Array Value} (h:w.heap[g]?=some (.cells cs T (0,0))) {n:Nat} (hn:cs.size=n):World.whole w g n T:=⟨cs,h,hn⟩
theorem run_store_whole {P:Program} {w:World} {g n:Nat} {vs:Array Value} {T:TypeId} (ty:TypeId) (h:World.whole w g n T) (hl:vs.size=n) (hi:(P.info? ty).map (·.size)=some n) (h1:vs.all (·.oneCell')=true) :
  (Instr.storeAt ty (.pointer (some ⟨g,0,none⟩)) (.agg vs)).run P w = .ok () (World.setAll w g vs):=by
 obtain ⟨cs,h,hn⟩:=h
 refine run_storeAt_mid w g 0 ty vs (fun j hj=>?_) (by rw [hl];exact hi) h1
 obtain ⟨v,hv⟩:∃ v,cs[j]?=some v:=⟨cs[j]'(by omega),Array.getElem?_eq_getElem (by omega)⟩
 have:=block_cell h j v hv
 rw [Nat.zero_add]
 exact ⟨by rw [this.1];rfl,this.2⟩
theorem wpList_store_whole {P:Program} {w:World} {ops:Array Oper} {rest:List Oper} {a:Act} {Q:Exit→Act→World→Prop} {t' : TypeId} {pos:String} {after:Array Edge} (ty:TypeId) (x y:Operand) (g n:Nat) (vs:Array Value) (T:TypeId)
  (hx:a.eval x = .pointer (some ⟨g,0,none⟩)) (hy:a.eval y = .agg vs) (hw:World.whole w g n T) (hl:vs.size=n) (hi:(P.info? ty).map (·.size)=some n) (h1:vs.all (·.oneCell')=true)
  (h:wpList P ops Q rest (a.put none undef) (World.setAll w g vs)):wpList P ops Q (⟨none,.store ty x y,t',pos,after,none⟩ :: rest) a w:=by
 refine wpList_plain rfl fun K hK=>?_
 unfold Oper.wp execOp
 have:=run_store_whole (P:=P) ty hw hl hi h1
 simp only [hx,hy,Sem.run_bind,Sem.run_pure,Result.andThen_ok,this]
 exact hK _ _ h
theorem setAll_self {w:World} {g n:Nat} {vs:Array Value} {T:TypeId} (h:World.whole w g n T) (hl:vs.size=n):(World.setAll w g vs).heap[g]?=some (.cells vs T (0,0)):=by
 obtain ⟨cs,h,hn⟩:=h
 have:=setCells_row (g:=g) (T:=T) vs.toList 0 w cs.toList (by simpa using h) (by simp;omega)
 unfold World.setAll
 rw [this]
 congr 2
 apply Array.ext'
 simp [List.drop_of_length_le,hl,hn]
theorem setAll_below {w w0:World} {B g:Nat} {vs:Array Value} (hb:Below B w0 w) (hg:B≤g):Below B w0 (World.setAll w g vs):=setCells_below hg _ _ _ hb
end Go.Proofs.Ytcpahggkioagkaa
