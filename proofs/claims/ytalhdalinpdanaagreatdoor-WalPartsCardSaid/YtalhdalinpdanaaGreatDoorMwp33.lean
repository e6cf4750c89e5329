/-
  ElFr, ElSix
-/
import Derived.Test.YtalhdalinpdanaaGreatDoorMwp10
import Derived.Test.YtalhdalinpdanaaGreatDoorMwp26
set_option linter.unusedVariables false
set_option linter.unusedSimpArgs false
section
namespace Go.Proofs.YtalhdalinpdanaaGreatDoor
set_option maxRecDepth 20000
open Go.RowKit Go.Proofs.YtalhdalinpdanaaGreatDoor.frame
abbrev frz:Fr:=⟨0,0,0,0,0,0,0,0,0⟩
theorem info_frame:(Tryz.prog.info? 72).map (fun i=>(i.zero,i.size,i.bytes))=some (some (.agg (fc frz)),9,72):=by kernel_rfl
theorem frame_cells (w:World) (S:Nat→Prop) (cs:List Value) (x:Fr) (h:rdFrame w S cs x):cs=(fc x).toList:=h.1
theorem frame_any {w:World} {S S' : Nat→Prop} {cs:List Value} {x:Fr} (h:rdFrame w S cs x):rdFrame w S' cs x:=h
end Go.Proofs.YtalhdalinpdanaaGreatDoor
end
section
namespace Go.Proofs.YtalhdalinpdanaaGreatDoor
set_option maxRecDepth 20000
open Go.RowKit
structure Six where
 (b0 b1 b2 b3 b4 b5:Int)
abbrev sz:Six:=⟨0,0,0,0,0,0⟩
abbrev sixC (x:Six):Array Value:=#[.int .i64 x.b0,.int .i64 x.b1,.int .i64 x.b2,.int .i64 x.b3,.int .i64 x.b4,.int .i64 x.b5]
def rdSix:Rd Six:=fun w S cs x=>cs=(sixC x).toList∧inI x.b0∧inI x.b1∧inI x.b2∧inI x.b3∧inI x.b4∧inI x.b5
theorem six_cells (w:World) (S:Nat→Prop) (cs:List Value) (x:Six) (h:rdSix w S cs x):cs=(sixC x).toList:=h.1
theorem info_six:(Tryz.prog.info? 28).map (fun i=>(i.zero,i.size,i.bytes))=some (some (.agg (sixC sz)),6,48):=by kernel_rfl
theorem bool_cells (w:World) (S:Nat→Prop) (cs:List Value) (x:Bool) (h:rdBool w S cs x):cs=[.bool x]:=h
theorem info_bool:(Tryz.prog.info? 4).map (fun i=>(i.zero,i.size,i.bytes))=some (some (.bool false),1,1):=by kernel_rfl
theorem six_of {w:World} {S:Nat→Prop} {cs:List Value} {x:List Int} (h:rdArr (rdInt .i64) 6 1 w S cs x):rdSix w S cs ⟨x.getD 0 0,x.getD 1 0,x.getD 2 0,x.getD 3 0,x.getD 4 0,x.getD 5 0⟩:=by
 obtain ⟨h1,h2,h3⟩:=h
 match cs,x,h1,h2 with
 | [c0,c1,c2,c3,c4,c5],[b0,b1,b2,b3,b4,b5],_,_ =>
  have e0:=h3 0 b0 rfl;have e1:=h3 1 b1 rfl;have e2:=h3 2 b2 rfl;have e3:=h3 3 b3 rfl;have e4:=h3 4 b4 rfl;have e5:=h3 5 b5 rfl
  simp [rdInt] at e0 e1 e2 e3 e4 e5
  obtain ⟨rfl,e0⟩:=e0;obtain ⟨rfl,e1⟩:=e1;obtain ⟨rfl,e2⟩:=e2;obtain ⟨rfl,e3⟩:=e3;obtain ⟨rfl,e4⟩:=e4;obtain ⟨rfl,e5⟩:=e5
  exact ⟨rfl,inI_of_wf e0,inI_of_wf e1,inI_of_wf e2,inI_of_wf e3,inI_of_wf e4,inI_of_wf e5⟩
theorem sixes {w:World} {S:Nat→Prop} {A:Option Addr} {xs:List (List Int)} (h:Elems (rdArr (rdInt .i64) 6 1) 6 w S A xs):Elems rdSix 6 w S A (xs.map fun x=>⟨x.getD 0 0,x.getD 1 0,x.getD 2 0,x.getD 3 0,x.getD 4 0,x.getD 5 0⟩):=fun hk=>by
 obtain ⟨b,off,e,hb,hc⟩:=h (by simpa using hk)
 refine ⟨b,off,e,hb,fun j x hx=>?_⟩
 rw [List.getElem?_map,Option.map_eq_some_iff] at hx
 obtain ⟨y,hy,rfl⟩:=hx
 obtain ⟨cs,h1,h2,h3⟩:=hc j y hy
 exact ⟨cs,h1,h2,six_of h3⟩
theorem six_fine {w:World} {S:Nat→Prop} {A:Option Addr} {l:List Six} (h:Elems rdSix 6 w S A l) {j:Nat} (hj:j < l.length):inI (l.getD j sz).b0∧inI (l.getD j sz).b1∧inI (l.getD j sz).b2∧inI (l.getD j sz).b3∧inI (l.getD j sz).b4∧inI (l.getD j sz).b5:=by
 obtain ⟨b,off,e,hb,hc⟩:=h (by omega)
 obtain ⟨cs,_,_,hf⟩:=hc j l[j] (List.getElem?_eq_getElem hj)
 rw [List.getD_eq_getElem?_getD,List.getElem?_eq_getElem hj]
 exact hf.2
end Go.Proofs.YtalhdalinpdanaaGreatDoor
end
