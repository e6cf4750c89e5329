/-
  StV, Rw4
-/
import Derived.Test.YtbbjlfbemibfcaaGreatMrt14
import Derived.Test.YtbbjlfbemibfcaaGreatMrt16
import Derived.Test.YtbbjlfbemibfcaaGreatMrt08
set_option linter.unusedVariables false
set_option linter.unusedSimpArgs false
section
namespace Go.Proofs.YtbbjlfbemibfcaaGreat
set_option maxRecDepth 20000
open Go.RowKit
structure Sv where
 A1:Option Addr
 c1:Nat
 A2:Option Addr
 c2:Nat
 A3:Option Addr
 c3:Nat
 A4:Option Addr
 c4:Nat
def stc (v:Sv) (s:book.St):Array Value:=#[.int .i64 s.a,.int .i64 s.y,.slice v.A1 s.os.length v.c1,.slice v.A2 s.cs.length v.c2,.slice v.A3 s.ls.length v.c3,.slice v.A4 s.ps.length v.c4,.bool s.k,.int .i64 s.last,.int .i64 s.seq,.int .i64 s.lsn]
structure InS (w:World) (S:Nat→Prop) (v:Sv) (s:book.St):Prop where
 o:Elems rdOrder 12 w S v.A1 s.os
 c:Elems rdCell 4 w S v.A2 s.cs
 l:Elems rdExpo 3 w S v.A3 s.ls
 k:Elems (rdInt .i64) 1 w S v.A4 s.ps
 no:s.os.length≤v.c1∧v.c1≤maxLen
 nc:s.cs.length≤v.c2∧v.c2≤maxLen
 nl:s.ls.length≤v.c3∧v.c3≤maxLen
 nk:s.ps.length≤v.c4∧v.c4≤maxLen
 fine:frame.inR s.a∧frame.inR s.y∧frame.inR s.last∧frame.inR s.seq∧frame.inR s.lsn
theorem InS.keep {w w' : World} {S S' : Nat→Prop} {v:Sv} {s:book.St} (h:InS w S v s) (hc:Alike S w w') (hS:∀ b,S b→S' b):InS w' S' v s :=
 ⟨h.o.keep keeps_order hc hS,h.c.keep keeps_cell hc hS,h.l.keep keeps_expo hc hS,h.k.keep (keeps_int _) hc hS,h.no,h.nc,h.nl,h.nk,h.fine⟩
theorem InS.below {w w' : World} {B:Nat} {v:Sv} {s:book.St} (h:InS w (Lt B) v s) (hb:Below B w w'):InS w' (Lt B) v s:=h.keep (below_alike hb) (fun _ h=>h)
theorem InS.all {w:World} {S:Nat→Prop} {v:Sv} {s:book.St} (h:InS w S v s) (hS:∀ b,S b→b < w.heap.size):InS w (Lt w.heap.size) v s:=h.keep (alike_refl _ _) hS
theorem InS.lt {w:World} {S:Nat→Prop} {v:Sv} {s:book.St} (h:InS w S v s):InS w (Lt w.heap.size) v s :=
 ⟨elems_lt order_cells (fun _=>Nat.succ_pos _) (fun h=>h) h.o,elems_lt cell_cells (fun _=>Nat.succ_pos _) (fun h=>h) h.c,elems_lt expo_cells (fun _=>Nat.succ_pos _) (fun h=>h) h.l,elems_lt (tc:=fun x=>#[Value.int .i64 x]) (fun _ _ _ _ h=>h.1) (fun _=>Nat.succ_pos _) (fun h=>h) h.k,h.no,h.nc,h.nl,h.nk,h.fine⟩
theorem InS.len {w:World} {S:Nat→Prop} {v:Sv} {s:book.St} (h:InS w S v s):s.os.length≤9223372036854775807∧s.cs.length≤9223372036854775807∧s.ls.length≤9223372036854775807∧s.ps.length≤9223372036854775807:=by
 have h1:=h.no;have h2:=h.nc;have h3:=h.nl;have h4:=h.nk;unfold maxLen at *;omega
theorem fine_or {w:World} {S:Nat→Prop} {A:Option Addr} {xs:List order.Or} (h:Elems rdOrder 12 w S A xs):∀ o ∈ xs,o.fine:=fun o ho=>by
 obtain ⟨j,hj,rfl⟩:=List.getElem_of_mem ho
 obtain ⟨b,off,e,hb,hc⟩:=h (by omega)
 obtain ⟨cs,hl,hcs,_,hf⟩:=hc j xs[j] (List.getElem?_eq_getElem hj)
 exact hf
theorem fine_ce {w:World} {S:Nat→Prop} {A:Option Addr} {xs:List cell.Ce} (h:Elems rdCell 4 w S A xs):∀ o ∈ xs,o.fine:=fun o ho=>by
 obtain ⟨j,hj,rfl⟩:=List.getElem_of_mem ho
 obtain ⟨b,off,e,hb,hc⟩:=h (by omega)
 obtain ⟨cs,hl,hcs,_,hf⟩:=hc j xs[j] (List.getElem?_eq_getElem hj)
 exact hf
theorem fine_ex {w:World} {S:Nat→Prop} {A:Option Addr} {xs:List cell.Ex} (h:Elems rdExpo 3 w S A xs):∀ o ∈ xs,o.fine:=fun o ho=>by
 obtain ⟨j,hj,rfl⟩:=List.getElem_of_mem ho
 obtain ⟨b,off,e,hb,hc⟩:=h (by omega)
 obtain ⟨cs,hl,hcs,_,hf⟩:=hc j xs[j] (List.getElem?_eq_getElem hj)
 exact hf
theorem fine_i64 {w:World} {S:Nat→Prop} {A:Option Addr} {xs:List Int} (h:Elems (rdInt .i64) 1 w S A xs):∀ o ∈ xs,frame.inR o:=fun o ho=>by
 obtain ⟨j,hj,rfl⟩:=List.getElem_of_mem ho
 obtain ⟨b,off,e,hb,hc⟩:=h (by omega)
 obtain ⟨cs,hl,hcs,_,hf⟩:=hc j xs[j] (List.getElem?_eq_getElem hj)
 exact inI_of_wf hf
theorem getD_mem {α:Type} {xs:List α} {j:Nat} {z:α} (h:j < xs.length):xs.getD j z ∈ xs:=List.mem_of_getElem? (at_getD h)
end Go.Proofs.YtbbjlfbemibfcaaGreat
end
section
namespace Go.Proofs.YtbbjlfbemibfcaaGreat
set_option maxRecDepth 20000
abbrev oO (A:Option Addr) (n c:Nat) (xs:List order.Or):Fact:=ownF rdOrder 12 54 A n c xs
abbrev oC (A:Option Addr) (n c:Nat) (xs:List cell.Ce):Fact:=ownF rdCell 4 60 A n c xs
abbrev oX (A:Option Addr) (n c:Nat) (xs:List cell.Ex):Fact:=ownF rdExpo 3 51 A n c xs
abbrev oI (A:Option Addr) (n c:Nat) (xs:List Int):Fact:=ownF (rdInt .i64) 1 2 A n c xs
abbrev rw4 (v:Sv) (s:book.St):List Fact:=[oO v.A1 s.os.length v.c1 s.os,oC v.A2 s.cs.length v.c2 s.cs,oX v.A3 s.ls.length v.c3 s.ls,oI v.A4 s.ps.length v.c4 s.ps]
end Go.Proofs.YtbbjlfbemibfcaaGreat
end
