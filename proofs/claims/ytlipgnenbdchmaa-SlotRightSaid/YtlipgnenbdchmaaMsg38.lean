/-
  WalStr, WalDat, DskL
-/
import Derived.Test.YtlipgnenbdchmaaMsg11
import Derived.Test.YtlipgnenbdchmaaMsg24
import Derived.LaidLaws
import Derived.Lib.LaidTab
import Derived.Sort.Grow
import Derived.WideLaws
set_option linter.unusedVariables false
set_option linter.unusedSimpArgs false
section
namespace Go.Proofs.Ytlipgnenbdchmaa
set_option maxRecDepth 20000
open Go.RowKit
variable {P:Program} {w0:World} {D:List Fact}
theorem list_eq {a b:ByteArray} : (a.toList == b.toList)=decide (a=b):=by
 rw [Bool.eq_iff_iff,beq_iff_eq,decide_eq_true_eq,ByteArray.toList_eq,ByteArray.toList_eq]
 constructor
 ·intro h
  obtain ⟨⟨x⟩⟩:=a
  obtain ⟨⟨y⟩⟩:=b
  simp at h
  rw [h]
 ·intro h;rw [h]
theorem str_eql {T:TypeId} {a b:ByteArray} (ox oy:Operand) :
  Yields0 P w0 D (do eqGuard .eql T ox oy (.string a) (.string b);Go.binOp .eql T (.string a) (.string b)) (.bool (decide (a=b))):=by
 intro w _ _
 rw [← list_eq]
 simp [eqGuard,Go.binOp,Sem.run_bind,Result.andThen_ok,Op.stringOp]
theorem str_neq {T:TypeId} {a b:ByteArray} (ox oy:Operand) :
  Yields0 P w0 D (do eqGuard .neq T ox oy (.string a) (.string b);Go.binOp .neq T (.string a) (.string b)) (.bool (!decide (a=b))):=by
 intro w _ _
 rw [← list_eq]
 simp [eqGuard,Go.binOp,Sem.run_bind,Result.andThen_ok,Op.stringOp]
theorem low_load {T:TypeId} {d:TypeDesc} {g off:Nat} {cs:Array Value} {v:Value} (hr:Reads0 w0 [] g 0 cs) (hu:P.underlying T=some d) (hd:d.isRow=false) (hv:cs[off]?=some v):Yields0 P w0 D (Instr.loadAt T (.pointer (some ⟨g,off,none⟩))) v:=fun w hw ha=>by
 have h0:=hr w hw trivial off v hv
 rw [Nat.zero_add] at h0
 have:=run_loadVar_one (P:=P) hu hd h0
 simp only [Instr.loadAt,Instr.sureAddr,Sem.run_bind,Sem.run_pure,Result.andThen_ok,this]
theorem reads_block {w:World} {g:Nat} {cs:Array Value} {T:TypeId} (h:w.heap[g]?=some (.cells cs T (0,0))):Reads0 w [] g 0 cs:=fun w' hw _ i v hv=>by
 have hlt:g < w.heap.size:=by
  rcases Nat.lt_or_ge g w.heap.size with hl | hg
  ·exact hl
  ·rw [Array.getElem?_eq_none hg] at h;cases h
 rw [Nat.zero_add]
 exact (block_cell ((hw.block g hlt).trans h) i v hv).1
theorem slice_upto {P:Program} {t e:TypeId} (ht:P.underlying t=some (.slice e)) {size bytes:Nat} {z:Value} (hinfo:(P.info? e).map (fun i=>(i.zero,i.size,i.bytes))=some (some z,size,bytes)) {A:Option Addr} {n c k:Nat} (hk:k≤c) (w:World) :
  (Instr.sliceAt t (.slice A n c) none (some (.int .i64 (k:Int))) none).run P w = .ok (.slice A k c) w:=by
 have hs:(Instr.sliceAt t (.slice A n c) none (some (.int .i64 (k:Int))) none).run P w=(Instr.slice t (.slice A n c) none (some (.int .i64 (k:Int))) none).run P w:=by
  unfold Instr.sliceAt
  rw [Sem.run_bind,run_underlying ht w]
  rfl
 rw [hs,run_cut_upto t e size bytes z ht hinfo A n c k _ rfl hk w]
end Go.Proofs.Ytlipgnenbdchmaa
end
section
namespace Go.Proofs.Ytlipgnenbdchmaa
set_option maxRecDepth 20000
open Go.RowKit
abbrev Un (S Q:Nat→Prop):Nat→Prop:=fun k=>S k∨Q k
abbrev Nw (S:Nat→Prop) (w w' : World):Nat→Prop:=fun k=>S k∨(w.heap.size≤k∧k < w'.heap.size)
section
variable {P:Program} {w0:World} {D:List Fact} {S:Nat→Prop} {W:World} {β:Type} {R:World→(Nat→Prop)→β→Prop}
theorem fixed_next (hF:Fixed w0 D S W) (x:Dat R S W) {i:Nat} (hi:D[i]?=some (poolF x.1.1 x.1.2.1)):Fixed w0 D (Un S x.1.2.1) x.1.1:=fun w hw ha=>⟨fun k hk=>by
  rcases hk with hk | hk
  ·exact ((hF w hw ha).1 k hk).trans (x.2.2.1 k hk).symm
  ·exact pool_at hi ha k hk,fun k hk=>by
  rcases hk with hk | hk
  ·exact (hF w hw ha).2 k hk
  ·have h1:=pool_at hi ha k hk
   rw [Array.getElem?_eq_getElem (x.2.2.2 k hk)] at h1
   exact (Array.getElem?_eq_some_iff.1 h1).1⟩
theorem dat_in (hK:Keeps3 R) (hF:Fixed w0 D S W) (x:Dat R S W) {i:Nat} (hi:D[i]?=some (poolF x.1.1 x.1.2.1)):∀ w,Below w0.heap.size w0 w→All D w→R w (Un S x.1.2.1) x.1.2.2 :=
 fun w hw ha=>x.later hK (hF w hw ha).1 (pool_at hi ha)
theorem agree_refl (S:Nat→Prop) (w:World):Agree S w w:=fun _ _=>rfl
theorem dat_all (hK:Keeps3 R) (hF:Fixed w0 D S W) (x:Dat R S W) {i:Nat} (hi:D[i]?=some (poolF x.1.1 x.1.2.1)):∀ w,Below w0.heap.size w0 w→All D w→R w (Lt w.heap.size) x.1.2.2 :=
 fun w hw ha=>hK w w _ _ _ (dat_in hK hF x hi w hw ha) (agree_refl _ _) ((fixed_next hF x hi w hw ha).2)
theorem dat_new (hK:Keeps3 R) (hF:Fixed w0 D S W) (x:Dat R S W) {i:Nat} (hi:D[i]?=some (poolF x.1.1 x.1.2.1)) {S0:Nat→Prop} {w' : World} (hb:Below w0.heap.size w0 w') (ha:All D w') (hy:∀ f ∈ D,∀ k,f.S k→w0.heap.size≤k∧k < w'.heap.size)
  (hS:∀ k,S k→Nw S0 w0 w' k):R w' (Nw S0 w0 w') x.1.2.2 :=
 hK w' w' _ _ _ (dat_in hK hF x hi w' hb ha) (agree_refl _ _) (fun k hk=>hk.elim (hS k) (fun h=>.inr (hy _ (List.mem_of_getElem? hi) k h)))
theorem new_un {S0:Nat→Prop} {w' : World} {W1:World} {Q:Nat→Prop} {i:Nat} (hi:D[i]?=some (poolF W1 Q)) (hy:∀ f ∈ D,∀ k,f.S k→w0.heap.size≤k∧k < w'.heap.size) (hS:∀ k,S k→Nw S0 w0 w' k):∀ k,Un S Q k→Nw S0 w0 w' k :=
 fun k hk=>hk.elim (hS k) (fun h=>.inr (hy _ (List.mem_of_getElem? hi) k h))
theorem new_base {S0:Nat→Prop} {w' : World} : ∀ k,S0 k→Nw S0 w0 w' k:=fun _ h=>.inl h
end
section
variable {S:Nat→Prop} {W:World} {β γ:Type} {R:World→(Nat→Prop)→β→Prop} {R' : World→(Nat→Prop)→γ→Prop}
end
end Go.Proofs.Ytlipgnenbdchmaa
end
section
namespace Go.Proofs.Ytlipgnenbdchmaa.dsk
set_option maxRecDepth 20000
open Go.RowKit Go.Proofs.Ytlipgnenbdchmaa
section
variable {S:Nat→Prop} {W:World}
end
section
variable {S:Nat→Prop} {W:World} {α β γ:Type} {RA:World→(Nat→Prop)→α→Prop} {RB' : World→(Nat→Prop)→β→Prop} {RC:World→(Nat→Prop)→γ→Prop}
end
end Go.Proofs.Ytlipgnenbdchmaa.dsk
end
