/-
  Base
-/
import Derived.WalkKit
import Derived.WalkSpells
import Derived.WalkLawsBesides
import Derived.Lib.Hide
import Derived.Deep.AppendLies
import Derived.Laws.AppendOwn
import Derived.Laws.Rows
import Derived.Deep.Draws
set_option linter.unusedVariables false
set_option linter.unusedSimpArgs false
namespace Go.Proofs.Ytcpahggkioagkaa
set_option maxRecDepth 20000
open Go.RowKit
def inI (a:Int):Prop := -9223372036854775808≤a∧a≤9223372036854775807
instance (a:Int):Decidable (inI a):=by unfold inI;infer_instance
def Ints (k:IntKind) (w:World) (B:Nat) (A:Option Addr) (xs:List Int):Prop :=
 (∀ x ∈ xs,(Lit.int k x).wf=true)∧(0 < xs.length→∃ b off,A=some ⟨b,off,none⟩∧b < B∧∀ j,j < xs.length→w.cell? ⟨b,off+j,none⟩=some (.int k (xs.getD j 0)))
theorem Ints.nil (k:IntKind) (w:World) (B:Nat) (A:Option Addr):Ints k w B A []:=⟨by simp,by simp⟩
theorem Ints.below {k:IntKind} {w w' : World} {B:Nat} {A:Option Addr} {xs:List Int} (h:Ints k w B A xs) (hb:Below B w w'):Ints k w' B A xs :=
 ⟨h.1,fun hn=>by
  obtain ⟨b,off,e,hlt,hc⟩:=h.2 hn
  exact ⟨b,off,e,hlt,fun j hj=>(hb.cell (p:=⟨b,off+j,none⟩) hlt).trans (hc j hj)⟩⟩
theorem Ints.more {k:IntKind} {w:World} {B B' : Nat} {A:Option Addr} {xs:List Int} (h:Ints k w B A xs) (hb:B≤B'):Ints k w B' A xs :=
 ⟨h.1,fun hn=>by
  obtain ⟨b,off,e,hlt,hc⟩:=h.2 hn
  exact ⟨b,off,e,by omega,hc⟩⟩
theorem Ints.take {k:IntKind} {w:World} {B:Nat} {A:Option Addr} {xs:List Int} (h:Ints k w B A xs) (m:Nat):Ints k w B A (xs.take m) :=
 ⟨fun x hx=>h.1 x (List.mem_of_mem_take hx),fun hn=>by
  have hl:(xs.take m).length≤xs.length:=by simp;omega
  obtain ⟨b,off,e,hlt,hc⟩:=h.2 (by omega)
  refine ⟨b,off,e,hlt,fun j hj=>?_⟩
  rw [hc j (by omega)]
  simp only [List.length_take] at hj
  simp [List.getD,show j < m by omega]⟩
theorem Ints.drop {k:IntKind} {w:World} {B:Nat} {A:Option Addr} {xs:List Int} (h:Ints k w B A xs) (m:Nat) (cap:Nat) (hc:xs.length≤cap) :
  Ints k w B (if cap=m then A else A.map (·.add m)) (xs.drop m) :=
 ⟨fun x hx=>h.1 x (List.mem_of_mem_drop hx),fun hn=>by
  simp only [List.length_drop] at hn
  obtain ⟨b,off,e,hlt,hcell⟩:=h.2 (by omega)
  subst e
  rw [if_neg (by omega)]
  refine ⟨b,off+m,?_,hlt,fun j hj=>?_⟩
  ·simp only [Option.map_some,Addr.add]
   by_cases hm:m=0<;>simp [hm]
  ·simp only [List.length_drop] at hj
   have:=hcell (m+j) (by omega)
   rw [Nat.add_assoc,this]
   simp [List.getD,List.getElem?_drop]⟩
theorem Ints.at_ {k:IntKind} {w:World} {B:Nat} {A:Option Addr} {xs:List Int} (h:Ints k w B A xs) {j:Nat} (hj:j < xs.length) :
  ∃ b off x,A=some ⟨b,off,none⟩∧b < B∧Hid (xs[j]?=some x)∧w.cell? ⟨b,off+j,none⟩=some (.int k x)∧(Lit.int k x).wf=true:=by
 obtain ⟨b,off,e,hlt,hc⟩:=h.2 (by omega)
 refine ⟨b,off,xs[j],e,hlt,Lib.hid (List.getElem?_eq_getElem hj),?_,h.1 _ (List.getElem_mem _)⟩
 simpa [List.getD,List.getElem?_eq_getElem hj] using hc j hj
theorem Ints.new {k:IntKind} {w:World} {t:TypeId} {cs:Array Value} (xs:List Int) (he:cs.toList=xs.map (Value.int k)) (hw:∀ x ∈ xs,(Lit.int k x).wf=true) :
  Ints k (w.alloc (.cells cs t)) (w.heap.size+1) (some ⟨w.heap.size,0,none⟩) xs :=
 ⟨hw,fun hn=>⟨w.heap.size,0,rfl,Nat.lt_succ_self _,fun j hj=>by
  have e:cs[j]?=some (.int k (xs.getD j 0)):=by
   rw [← Array.getElem?_toList,he]
   simp [List.getD,List.getElem?_eq_getElem hj]
  rw [← e,Nat.zero_add]
  exact cell_of_row (w.alloc (.cells cs t)) w.heap.size j cs t (0,0) (heap_alloc_new w _)⟩⟩
theorem inI_of_wf {x:Int} (h:(Lit.int .i64 x).wf=true):inI x:=by
 simpa [Lit.wf,IntKind.min,IntKind.max,IntKind.signed,IntKind.bits,inI] using h
theorem Ints.of_own {k:IntKind} {w:World} {base:Nat} {e:TypeId} {A:Option Addr} {n c:Nat} {xs:List Int} (hw:∀ x ∈ xs,(Lit.int k x).wf=true)
  (h:w.ownsRow base e 1 (.slice A n c) n (xs.map (Value.int k))):Ints k w w.heap.size A xs :=
 ⟨hw,fun hn=>by
  have hl:xs.length=n:=by simpa using h.1
  obtain ⟨g,cap,hv,_,hlt⟩:=World.ownsRow.form h (by omega)
  have hA:A=some ⟨g,0,none⟩:=by injection hv
  subst hA
  refine ⟨g,0,rfl,hlt,fun j hj=>?_⟩
  have:=World.ownsRow.cells h (g:=g) rfl j (.int k (xs.getD j 0)) (by simp [List.getD,List.getElem?_eq_getElem hj])
  simp only [Addr.add] at this
  by_cases h0:j=0
  ·subst h0;simpa using this
  ·simpa [h0] using this⟩
end Go.Proofs.Ytcpahggkioagkaa
