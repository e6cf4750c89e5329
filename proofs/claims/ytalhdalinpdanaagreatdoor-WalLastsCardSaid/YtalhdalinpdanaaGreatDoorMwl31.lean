/-
  ElFr
-/
import Derived.Test.YtalhdalinpdanaaGreatDoorMwl10
import Derived.Test.YtalhdalinpdanaaGreatDoorMwl24
set_option linter.unusedVariables false
set_option linter.unusedSimpArgs false
namespace Go.Proofs.YtalhdalinpdanaaGreatDoor
set_option maxRecDepth 20000
open Go.RowKit Go.Proofs.YtalhdalinpdanaaGreatDoor.frame
abbrev frz:Fr:=⟨0,0,0,0,0,0,0,0,0⟩
theorem info_frame:(Tryz.prog.info? 72).map (fun i=>(i.zero,i.size,i.bytes))=some (some (.agg (fc frz)),9,72):=by kernel_rfl
theorem frame_cells (w:World) (S:Nat→Prop) (cs:List Value) (x:Fr) (h:rdFrame w S cs x):cs=(fc x).toList:=h.1
theorem fine_of {w:World} {S:Nat→Prop} {A:Option Addr} {l:List Fr} (h:Elems rdFrame 9 w S A l):∀ f ∈ l,f.fine:=by
 intro f hf
 obtain ⟨j,hj,rfl⟩:=List.getElem_of_mem hf
 obtain ⟨b,off,e,hb,hc⟩:=h (by omega)
 obtain ⟨cs,hl,hcs,_,hf⟩:=hc j l[j] (List.getElem?_eq_getElem hj)
 exact hf
theorem frame_any {w:World} {S S' : Nat→Prop} {cs:List Value} {x:Fr} (h:rdFrame w S cs x):rdFrame w S' cs x:=h
end Go.Proofs.YtalhdalinpdanaaGreatDoor
