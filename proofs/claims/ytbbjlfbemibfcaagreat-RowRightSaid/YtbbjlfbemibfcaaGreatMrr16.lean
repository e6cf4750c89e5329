/-
  StV, Rw4
-/
import Derived.Test.YtbbjlfbemibfcaaGreatMrr13
import Derived.Test.YtbbjlfbemibfcaaGreatMrr15
import Derived.Test.YtbbjlfbemibfcaaGreatMrr08
set_option linter.unusedVariables false
set_option linter.unusedSimpArgs false
section
namespace Go.Proofs.YtbbjlfbemibfcaaGreat
set_option maxRecDepth 20000
open Go.RowKit
structure Sv where
 A1:Option Addr
 c1:Nat
 A2:Option Addr
 c2:Nat
 A3:Option Addr
 c3:Nat
 A4:Option Addr
 c4:Nat
def bg (v:Sv) (s:book.St):Array Value:=#[.int .i64 s.a,.int .i64 s.y,.slice v.A1 s.os.length v.c1,.slice v.A2 s.cs.length v.c2,.slice v.A3 s.ls.length v.c3,.slice v.A4 s.ps.length v.c4,.bool s.k,.int .i64 s.last,.int .i64 s.seq,.int .i64 s.ng]
structure lu (w:World) (S:Nat→Prop) (v:Sv) (s:book.St):Prop where
 o:ql eu 12 w S v.A1 s.os
 c:ql gu 4 w S v.A2 s.cs
 l:ql je 3 w S v.A3 s.ls
 k:ql (bf .i64) 1 w S v.A4 s.ps
 no:s.os.length≤v.c1∧v.c1≤maxLen
 nc:s.cs.length≤v.c2∧v.c2≤maxLen
 nl:s.ls.length≤v.c3∧v.c3≤maxLen
 nk:s.ps.length≤v.c4∧v.c4≤maxLen
 fine:frame.jh s.a∧frame.jh s.y∧frame.jh s.last∧frame.jh s.seq∧frame.jh s.ng
theorem lu.keep {w w' : World} {S S' : Nat→Prop} {v:Sv} {s:book.St} (h:lu w S v s) (hc:Alike S w w') (hS:∀ b,S b→S' b):lu w' S' v s :=
 ⟨h.o.keep E9 hc hS,h.c.keep zn hc hS,h.l.keep Fq hc hS,h.k.keep (pz _) hc hS,h.no,h.nc,h.nl,h.nk,h.fine⟩
theorem lu.below {w w' : World} {B:Nat} {v:Sv} {s:book.St} (h:lu w (Lt B) v s) (hb:Below B w w'):lu w' (Lt B) v s:=h.keep (qgr hb) (fun _ h=>h)
theorem lu.all {w:World} {S:Nat→Prop} {v:Sv} {s:book.St} (h:lu w S v s) (hS:∀ b,S b→b < w.heap.size):lu w (Lt w.heap.size) v s:=h.keep (alike_refl _ _) hS
theorem lu.lt {w:World} {S:Nat→Prop} {v:Sv} {s:book.St} (h:lu w S v s):lu w (Lt w.heap.size) v s :=
 ⟨qk2 Dv (fun _=>Nat.succ_pos _) (fun h=>h) h.o,qk2 qa2 (fun _=>Nat.succ_pos _) (fun h=>h) h.c,qk2 Gq (fun _=>Nat.succ_pos _) (fun h=>h) h.l,qk2 (tc:=fun x=>#[Value.int .i64 x]) (fun _ _ _ _ h=>h.1) (fun _=>Nat.succ_pos _) (fun h=>h) h.k,h.no,h.nc,h.nl,h.nk,h.fine⟩
theorem lu.len {w:World} {S:Nat→Prop} {v:Sv} {s:book.St} (h:lu w S v s):s.os.length≤9223372036854775807∧s.cs.length≤9223372036854775807∧s.ls.length≤9223372036854775807∧s.ps.length≤9223372036854775807:=by
 have h1:=h.no;have h2:=h.nc;have h3:=h.nl;have h4:=h.nk;unfold maxLen at *;omega
theorem Bh {w:World} {S:Nat→Prop} {A:Option Addr} {xs:List order.Or} (h:ql eu 12 w S A xs):∀ o ∈ xs,o.fine:=fun o ho=>by
 obtain ⟨j,hj,rfl⟩:=List.getElem_of_mem ho
 obtain ⟨b,off,e,hb,hc⟩:=h (by omega)
 obtain ⟨cs,hl,hcs,_,hf⟩:=hc j xs[j] (List.getElem?_eq_getElem hj)
 exact hf
theorem Jg {w:World} {S:Nat→Prop} {A:Option Addr} {xs:List cell.Ce} (h:ql gu 4 w S A xs):∀ o ∈ xs,o.fine:=fun o ho=>by
 obtain ⟨j,hj,rfl⟩:=List.getElem_of_mem ho
 obtain ⟨b,off,e,hb,hc⟩:=h (by omega)
 obtain ⟨cs,hl,hcs,_,hf⟩:=hc j xs[j] (List.getElem?_eq_getElem hj)
 exact hf
theorem Un {w:World} {S:Nat→Prop} {A:Option Addr} {xs:List cell.Ex} (h:ql je 3 w S A xs):∀ o ∈ xs,o.fine:=fun o ho=>by
 obtain ⟨j,hj,rfl⟩:=List.getElem_of_mem ho
 obtain ⟨b,off,e,hb,hc⟩:=h (by omega)
 obtain ⟨cs,hl,hcs,_,hf⟩:=hc j xs[j] (List.getElem?_eq_getElem hj)
 exact hf
theorem q13 {w:World} {S:Nat→Prop} {A:Option Addr} {xs:List Int} (h:ql (bf .i64) 1 w S A xs):∀ o ∈ xs,frame.jh o:=fun o ho=>by
 obtain ⟨j,hj,rfl⟩:=List.getElem_of_mem ho
 obtain ⟨b,off,e,hb,hc⟩:=h (by omega)
 obtain ⟨cs,hl,hcs,_,hf⟩:=hc j xs[j] (List.getElem?_eq_getElem hj)
 exact qb2 hf
theorem l7 {α:Type} {xs:List α} {j:Nat} {z:α} (h:j < xs.length):xs.getD j z ∈ xs:=List.mem_of_getElem? (ou h)
end Go.Proofs.YtbbjlfbemibfcaaGreat
end
section
namespace Go.Proofs.YtbbjlfbemibfcaaGreat
set_option maxRecDepth 20000
abbrev oO (A:Option Addr) (n c:Nat) (xs:List order.Or):Fact:=ah eu 12 54 A n c xs
abbrev oC (A:Option Addr) (n c:Nat) (xs:List cell.Ce):Fact:=ah gu 4 60 A n c xs
abbrev oX (A:Option Addr) (n c:Nat) (xs:List cell.Ex):Fact:=ah je 3 51 A n c xs
abbrev oI (A:Option Addr) (n c:Nat) (xs:List Int):Fact:=ah (bf .i64) 1 2 A n c xs
abbrev yx (v:Sv) (s:book.St):List Fact:=[oO v.A1 s.os.length v.c1 s.os,oC v.A2 s.cs.length v.c2 s.cs,oX v.A3 s.ls.length v.c3 s.ls,oI v.A4 s.ps.length v.c4 s.ps]
end Go.Proofs.YtbbjlfbemibfcaaGreat
end
