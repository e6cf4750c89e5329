/-
  StV, Rw4, BookGm, BookCm, LowN
-/
import Derived.Test.YtcpahggkioagkaaMvf16
import Derived.Test.YtcpahggkioagkaaMvf22
import Derived.Test.YtcpahggkioagkaaMvf10
import Derived.Test.YtcpahggkioagkaaMvf21
import Derived.Test.YtcpahggkioagkaaMvf15
import Derived.Test.YtcpahggkioagkaaMvf19
set_option linter.unusedVariables false
set_option linter.unusedSimpArgs false
section
namespace Go.Proofs.Ytcpahggkioagkaa
set_option maxRecDepth 20000
open Go.RowKit
structure Sv where
 A1:Option Addr
 c1:Nat
 A2:Option Addr
 c2:Nat
 A3:Option Addr
 c3:Nat
 A4:Option Addr
 c4:Nat
structure InS (w:World) (S:Nat→Prop) (v:Sv) (s:book.St):Prop where
 o:Elems rdOrder 12 w S v.A1 s.os
 c:Elems rdCell 4 w S v.A2 s.cs
 l:Elems rdExpo 3 w S v.A3 s.ls
 k:Elems (rdInt .i64) 1 w S v.A4 s.ps
 no:s.os.length≤v.c1∧v.c1≤maxLen
 nc:s.cs.length≤v.c2∧v.c2≤maxLen
 nl:s.ls.length≤v.c3∧v.c3≤maxLen
 nk:s.ps.length≤v.c4∧v.c4≤maxLen
 fine:frame.inR s.a∧frame.inR s.y∧frame.inR s.last∧frame.inR s.seq∧frame.inR s.lsn
theorem InS.keep {w w' : World} {S S' : Nat→Prop} {v:Sv} {s:book.St} (h:InS w S v s) (hc:Alike S w w') (hS:∀ b,S b→S' b):InS w' S' v s :=
 ⟨h.o.keep keeps_order hc hS,h.c.keep keeps_cell hc hS,h.l.keep keeps_expo hc hS,h.k.keep (keeps_int _) hc hS,h.no,h.nc,h.nl,h.nk,h.fine⟩
theorem InS.below {w w' : World} {B:Nat} {v:Sv} {s:book.St} (h:InS w (Lt B) v s) (hb:Below B w w'):InS w' (Lt B) v s:=h.keep (below_alike hb) (fun _ h=>h)
theorem InS.all {w:World} {S:Nat→Prop} {v:Sv} {s:book.St} (h:InS w S v s) (hS:∀ b,S b→b < w.heap.size):InS w (Lt w.heap.size) v s:=h.keep (alike_refl _ _) hS
theorem InS.lt {w:World} {S:Nat→Prop} {v:Sv} {s:book.St} (h:InS w S v s):InS w (Lt w.heap.size) v s :=
 ⟨elems_lt order_cells (fun _=>Nat.succ_pos _) (fun h=>h) h.o,elems_lt cell_cells (fun _=>Nat.succ_pos _) (fun h=>h) h.c,elems_lt expo_cells (fun _=>Nat.succ_pos _) (fun h=>h) h.l,elems_lt (tc:=fun x=>#[Value.int .i64 x]) (fun _ _ _ _ h=>h.1) (fun _=>Nat.succ_pos _) (fun h=>h) h.k,h.no,h.nc,h.nl,h.nk,h.fine⟩
theorem InS.len {w:World} {S:Nat→Prop} {v:Sv} {s:book.St} (h:InS w S v s):s.os.length≤9223372036854775807∧s.cs.length≤9223372036854775807∧s.ls.length≤9223372036854775807∧s.ps.length≤9223372036854775807:=by
 have h1:=h.no;have h2:=h.nc;have h3:=h.nl;have h4:=h.nk;unfold maxLen at *;omega
theorem fine_or {w:World} {S:Nat→Prop} {A:Option Addr} {xs:List order.Or} (h:Elems rdOrder 12 w S A xs):∀ o ∈ xs,o.fine:=fun o ho=>by
 obtain ⟨j,hj,rfl⟩:=List.getElem_of_mem ho
 obtain ⟨b,off,e,hb,hc⟩:=h (by omega)
 obtain ⟨cs,hl,hcs,_,hf⟩:=hc j xs[j] (List.getElem?_eq_getElem hj)
 exact hf
theorem getD_mem {α:Type} {xs:List α} {j:Nat} {z:α} (h:j < xs.length):xs.getD j z ∈ xs:=List.mem_of_getElem? (at_getD h)
end Go.Proofs.Ytcpahggkioagkaa
end
section
namespace Go.Proofs.Ytcpahggkioagkaa
set_option maxRecDepth 20000
abbrev oO (A:Option Addr) (n c:Nat) (xs:List order.Or):Fact:=ownF rdOrder 12 53 A n c xs
abbrev oI (A:Option Addr) (n c:Nat) (xs:List Int):Fact:=ownF (rdInt .i64) 1 2 A n c xs
end Go.Proofs.Ytcpahggkioagkaa
end
section
namespace Go.Proofs.Ytcpahggkioagkaa.book
set_option maxRecDepth 20000
open Go.RowKit Go.Proofs.Ytcpahggkioagkaa
open Go.Proofs.Ytcpahggkioagkaa.order (Or open_ worth)
open Go.Proofs.Ytcpahggkioagkaa.cell (Ce Ex)
def addV (a b:Int):Int:=if inI (a+b) then a+b else 0
end Go.Proofs.Ytcpahggkioagkaa.book
end
section
namespace Go.Proofs.Ytcpahggkioagkaa.book
set_option maxRecDepth 20000
open Go.RowKit Go.Proofs.Ytcpahggkioagkaa
open Go.Proofs.Ytcpahggkioagkaa.order (Or open_ worth oz)
open Go.Proofs.Ytcpahggkioagkaa.cell (Ce Ex)
def CL (s:St):List Ce:=cellsOf s.y s.os (s.cs.map Ce.p)
def part (s:St) (i k:Nat):Ce:=cellAt s.y i (s.cs.getD i cz).p (s.os.take k)
theorem part_end (s:St) {i k:Nat} (hk:s.os.length≤k):part s i k=cellAt s.y i (s.cs.getD i cz).p s.os:=by
 unfold part;rw [List.take_of_length_le hk]
theorem CL_at {s:St} {i:Nat} (hi:i < s.cs.length):(CL s)[i]?=some (cellAt s.y i (s.cs.getD i cz).p s.os):=by
 refine cells_at ?_
 rw [List.getElem?_map,at_getD (z:=cz) hi];rfl
theorem CL_next {s:St} {i k:Nat} (hi:i < s.cs.length) (hk:s.os.length≤k):(CL s).take i++[part s i k]=(CL s).take (i+1):=by
 rw [part_end s hk,List.take_add_one,CL_at hi];rfl
theorem take_next {s:St} {i k:Nat} (hi:i < s.cs.length) (hk:s.os.length≤k) (h:∀ c ∈ (CL s).take i,c.fine∧cell.Rightly c) (hf:(part s i k).fine) (hr:cell.right (part s i k)=true):∀ c ∈ (CL s).take (i+1),c.fine∧cell.Rightly c:=by
 rw [← CL_next hi hk]
 intro c hc
 rcases List.mem_append.1 hc with h1 | h1
 ·exact h c h1
 ·rw [List.mem_singleton.1 h1];exact ⟨hf,cell.right_iff.1 hr⟩
end Go.Proofs.Ytcpahggkioagkaa.book
end
section
namespace Go.Proofs.Ytcpahggkioagkaa.book
set_option maxRecDepth 20000
open Go.RowKit Go.Proofs.Ytcpahggkioagkaa
variable {w0:World} {D:List Fact}
def addE (a b:Int):Int:=if inI (a+b) then 0 else 3
theorem addE_iff {a b:Int} : addE a b=0 ↔ inI (a+b):=by unfold addE;split<;>simp_all
theorem n_add {a b:Int} (ha:inI a) (hb:inI b):Gives Try.prog w0 D 43 #[.int .i64 a,.int .i64 b] (.tuple #[.int .i64 (addV a b),.int .i64 (addE a b)]):=by
 unfold addV addE
 by_cases h:inI (a+b)
 ·rw [if_pos h,if_pos h];exact gives_same (fun w=>num.add_ok a b w ha hb h)
 ·rw [if_neg h,if_neg h];exact gives_same (fun w=>num.add_over a b w ha hb h)
theorem n_max {a b:Int} (ha:inI a) (hb:inI b):Gives Try.prog w0 D 68 #[.int .i64 a,.int .i64 b] (.int .i64 (max a b)):=gives_same (fun w=>num.max_any a b w ha hb)
end Go.Proofs.Ytcpahggkioagkaa.book
end
