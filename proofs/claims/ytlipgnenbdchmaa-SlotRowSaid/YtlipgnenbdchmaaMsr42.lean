/-
  Cut, DiskMathA
-/
import Derived.Test.YtlipgnenbdchmaaMsr02
import Derived.Test.YtlipgnenbdchmaaMsr04
import Derived.Test.YtlipgnenbdchmaaMsr18
set_option linter.unusedVariables false
set_option linter.unusedSimpArgs false
section
namespace Go.Proofs.Ytlipgnenbdchmaa
set_option maxRecDepth 20000
open Go.RowKit
theorem Elems.cut {α:Type} {R:Rd α} {size:Nat} {w:World} {S:Nat→Prop} {A:Option Addr} {xs:List α} (h:Elems R size w S A xs) (m cap:Nat) (hc:xs.length≤cap):Elems R size w S (cutAt A cap m size) (xs.drop m):=fun h0=>by
 rw [List.length_drop] at h0
 obtain ⟨b,off,rfl,hb,hj⟩:=h (by omega)
 have hne:¬ cap=m:=by omega
 refine ⟨b,off+m * size,by simp [cutAt,hne,Addr.add],hb,fun j x hx=>?_⟩
 rw [List.getElem?_drop] at hx
 obtain ⟨cs,h1,h2,h3⟩:=hj (m+j) x hx
 refine ⟨cs,h1,fun i c hic=>?_,h3⟩
 have:=h2 i c hic
 rw [Nat.add_mul] at this
 rw [← this]
 congr 2
 omega
end Go.Proofs.Ytlipgnenbdchmaa
end
section
namespace Go.Proofs.Ytlipgnenbdchmaa.disk
set_option maxRecDepth 20000
open Go.RowKit
theorem look_with {fs:List FileD} (f:FileD) (h:Row fs):look f.name (withF f fs)=some f:=look_of (row_with f h) ((mem_with h).2 (.inl rfl))
theorem appF_name (fs:List FileD) (nm:ByteArray) (b:List Nat):({ oldOf nm fs with data:=(oldOf nm fs).data++b } : FileD).name=nm:=old_name nm fs
theorem look_appF {fs:List FileD} {nm:ByteArray} {b:List Nat} (h:Row fs):look nm (appF fs nm b)=some { oldOf nm fs with data:=(oldOf nm fs).data++b }:=by
 have:=look_with { oldOf nm fs with data:=(oldOf nm fs).data++b } h
 rw [appF_name] at this
 exact this
end Go.Proofs.Ytlipgnenbdchmaa.disk
end
