/-
  WalStr, WalDat, DskL
-/
import Derived.Test.YtlipgnenbdchmaaMsr11
import Derived.Test.YtlipgnenbdchmaaMsr42
import Derived.LaidLaws
import Derived.Lib.LaidTab
import Derived.Sort.Grow
import Derived.WideLaws
set_option linter.unusedVariables false
set_option linter.unusedSimpArgs false
section
namespace Go.Proofs.Ytlipgnenbdchmaa
set_option maxRecDepth 20000
open Go.RowKit
variable {P:Program} {w0:World} {D:List Fact}
theorem list_eq {a b:ByteArray} : (a.toList == b.toList)=decide (a=b):=by
 rw [Bool.eq_iff_iff,beq_iff_eq,decide_eq_true_eq,ByteArray.toList_eq,ByteArray.toList_eq]
 constructor
 ·intro h
  obtain ⟨⟨x⟩⟩:=a
  obtain ⟨⟨y⟩⟩:=b
  simp at h
  rw [h]
 ·intro h;rw [h]
theorem str_eql {T:TypeId} {a b:ByteArray} (ox oy:Operand) :
  Yields0 P w0 D (do eqGuard .eql T ox oy (.string a) (.string b);Go.binOp .eql T (.string a) (.string b)) (.bool (decide (a=b))):=by
 intro w _ _
 rw [← list_eq]
 simp [eqGuard,Go.binOp,Sem.run_bind,Result.andThen_ok,Op.stringOp]
theorem low_load {T:TypeId} {d:TypeDesc} {g off:Nat} {cs:Array Value} {v:Value} (hr:Reads0 w0 [] g 0 cs) (hu:P.underlying T=some d) (hd:d.isRow=false) (hv:cs[off]?=some v):Yields0 P w0 D (Instr.loadAt T (.pointer (some ⟨g,off,none⟩))) v:=fun w hw ha=>by
 have h0:=hr w hw trivial off v hv
 rw [Nat.zero_add] at h0
 have:=run_loadVar_one (P:=P) hu hd h0
 simp only [Instr.loadAt,Instr.sureAddr,Sem.run_bind,Sem.run_pure,Result.andThen_ok,this]
theorem reads_block {w:World} {g:Nat} {cs:Array Value} {T:TypeId} (h:w.heap[g]?=some (.cells cs T (0,0))):Reads0 w [] g 0 cs:=fun w' hw _ i v hv=>by
 have hlt:g < w.heap.size:=by
  rcases Nat.lt_or_ge g w.heap.size with hl | hg
  ·exact hl
  ·rw [Array.getElem?_eq_none hg] at h;cases h
 rw [Nat.zero_add]
 exact (block_cell ((hw.block g hlt).trans h) i v hv).1
end Go.Proofs.Ytlipgnenbdchmaa
end
section
namespace Go.Proofs.Ytlipgnenbdchmaa
set_option maxRecDepth 20000
open Go.RowKit
abbrev Un (S Q:Nat→Prop):Nat→Prop:=fun k=>S k∨Q k
abbrev Nw (S:Nat→Prop) (w w' : World):Nat→Prop:=fun k=>S k∨(w.heap.size≤k∧k < w'.heap.size)
section
variable {P:Program} {w0:World} {D:List Fact} {S:Nat→Prop} {W:World} {β:Type} {R:World→(Nat→Prop)→β→Prop}
theorem fixed_next (hF:Fixed w0 D S W) (x:Dat R S W) {i:Nat} (hi:D[i]?=some (poolF x.1.1 x.1.2.1)):Fixed w0 D (Un S x.1.2.1) x.1.1:=fun w hw ha=>⟨fun k hk=>by
  rcases hk with hk | hk
  ·exact ((hF w hw ha).1 k hk).trans (x.2.2.1 k hk).symm
  ·exact pool_at hi ha k hk,fun k hk=>by
  rcases hk with hk | hk
  ·exact (hF w hw ha).2 k hk
  ·have h1:=pool_at hi ha k hk
   rw [Array.getElem?_eq_getElem (x.2.2.2 k hk)] at h1
   exact (Array.getElem?_eq_some_iff.1 h1).1⟩
theorem dat_in (hK:Keeps3 R) (hF:Fixed w0 D S W) (x:Dat R S W) {i:Nat} (hi:D[i]?=some (poolF x.1.1 x.1.2.1)):∀ w,Below w0.heap.size w0 w→All D w→R w (Un S x.1.2.1) x.1.2.2 :=
 fun w hw ha=>x.later hK (hF w hw ha).1 (pool_at hi ha)
theorem agree_refl (S:Nat→Prop) (w:World):Agree S w w:=fun _ _=>rfl
theorem dat_all (hK:Keeps3 R) (hF:Fixed w0 D S W) (x:Dat R S W) {i:Nat} (hi:D[i]?=some (poolF x.1.1 x.1.2.1)):∀ w,Below w0.heap.size w0 w→All D w→R w (Lt w.heap.size) x.1.2.2 :=
 fun w hw ha=>hK w w _ _ _ (dat_in hK hF x hi w hw ha) (agree_refl _ _) ((fixed_next hF x hi w hw ha).2)
theorem dat_new (hK:Keeps3 R) (hF:Fixed w0 D S W) (x:Dat R S W) {i:Nat} (hi:D[i]?=some (poolF x.1.1 x.1.2.1)) {S0:Nat→Prop} {w' : World} (hb:Below w0.heap.size w0 w') (ha:All D w') (hy:∀ f ∈ D,∀ k,f.S k→w0.heap.size≤k∧k < w'.heap.size)
  (hS:∀ k,S k→Nw S0 w0 w' k):R w' (Nw S0 w0 w') x.1.2.2 :=
 hK w' w' _ _ _ (dat_in hK hF x hi w' hb ha) (agree_refl _ _) (fun k hk=>hk.elim (hS k) (fun h=>.inr (hy _ (List.mem_of_getElem? hi) k h)))
theorem new_un {S0:Nat→Prop} {w' : World} {W1:World} {Q:Nat→Prop} {i:Nat} (hi:D[i]?=some (poolF W1 Q)) (hy:∀ f ∈ D,∀ k,f.S k→w0.heap.size≤k∧k < w'.heap.size) (hS:∀ k,S k→Nw S0 w0 w' k):∀ k,Un S Q k→Nw S0 w0 w' k :=
 fun k hk=>hk.elim (hS k) (fun h=>.inr (hy _ (List.mem_of_getElem? hi) k h))
theorem new_base {S0:Nat→Prop} {w' : World} : ∀ k,S0 k→Nw S0 w0 w' k:=fun _ h=>.inl h
end
section
variable {S:Nat→Prop} {W:World} {β γ:Type} {R:World→(Nat→Prop)→β→Prop} {R' : World→(Nat→Prop)→γ→Prop}
theorem keeps_and {R:World→(Nat→Prop)→β→Prop} {R' : World→(Nat→Prop)→γ→Prop} (h:Keeps3 R) (h' : Keeps3 R'):Keeps3 (fun w S (b:β × γ)=>R w S b.1∧R' w S b.2):=fun w w' S S' b hb ha hs=>⟨h w w' S S' _ hb.1 ha hs,h' w w' S S' _ hb.2 ha hs⟩
abbrev glue (hK:Keeps3 R) (x:Dat R S W) (hK' : Keeps3 R') (z:Dat R' (Un S x.1.2.1) x.1.1):Dat (fun w S (b:β × γ)=>R w S b.1∧R' w S b.2) S W :=
 ⟨(z.1.1,Un x.1.2.1 z.1.2.1,(x.1.2.2,z.1.2.2)),⟨hK _ _ _ _ _ x.2.1 (fun k hk=>z.2.2.1 k hk) (fun k hk=>hk.elim .inl (fun h=>.inr (.inl h))),hK' _ _ _ _ _ z.2.1 (agree_refl _ _) (fun k hk=>by
   rcases hk with (hk | hk) | hk
   ·exact .inl hk
   ·exact .inr (.inl hk)
   ·exact .inr (.inr hk))⟩,fun k hk=>(z.2.2.1 k (.inl hk)).trans (x.2.2.1 k hk),fun k hk=>by
  rcases hk with hk | hk
  ·have h1:=z.2.2.1 k (.inr hk)
   rw [Array.getElem?_eq_getElem (x.2.2.2 k hk)] at h1
   exact (Array.getElem?_eq_some_iff.1 h1).1
  ·exact z.2.2.2 k hk⟩
abbrev given_ {w:World} {b:β} (h:R w S b) (hK:Keeps3 R):Dat R S w:=⟨(w,(fun _=>False),b),hK _ _ _ _ _ h (agree_refl _ _) (fun _ h=>.inl h),fun _ _=>rfl,fun _ h=>h.elim⟩
theorem news_pool0 {w0 w:World} {n:Nat} : News (fun _=>False) n [poolF w0 (fun _=>False)] w :=
 ⟨⟨fun _ h=>h.elim,trivial⟩,fun f hf k hk=>by rw [List.mem_singleton.1 hf] at hk;exact hk.elim,List.pairwise_singleton _ _,fun f hf=>by rw [List.mem_singleton.1 hf];exact poolF_stable _ _⟩
end
end Go.Proofs.Ytlipgnenbdchmaa
end
section
namespace Go.Proofs.Ytlipgnenbdchmaa.dsk
set_option maxRecDepth 20000
open Go.RowKit Go.Proofs.Ytlipgnenbdchmaa
section
variable {S:Nat→Prop} {W:World}
theorem turns_glue2 {β γ:Type} {R:World→(Nat→Prop)→β→Prop} {R' : World→(Nat→Prop)→γ→Prop} {w0:World} (hK:Keeps3 R) (x:Dat R S W) (hK' : Keeps3 R') (z:Dat R' (Un S x.1.2.1) x.1.1) {E:List Fact} : Turns w0 (poolF z.1.1 z.1.2.1 :: poolF x.1.1 x.1.2.1 :: E) (poolF (glue hK x hK' z).1.1 (glue hK x hK' z).1.2.1 :: E):=fun h1 h2=>by
 obtain ⟨a1,a2⟩:=List.pairwise_cons.1 h2
 obtain ⟨b1,b2⟩:=List.pairwise_cons.1 a2
 refine ⟨fun f hf=>?_,List.pairwise_cons.2 ⟨fun g hg k hk hk2=>?_,b2⟩,fun f hf k hk=>?_,fun w' hw ha=>⟨fun k hk=>?_,ha.2.2⟩⟩
 ·rcases List.mem_cons.1 hf with rfl | hf
  ·exact poolF_stable _ _
  ·exact h1 f (List.mem_cons_of_mem _ (List.mem_cons_of_mem _ hf))
 ·rcases hk with hk | hk
  ·exact b1 g hg k hk hk2
  ·exact a1 g (List.mem_cons_of_mem _ hg) k hk hk2
 ·rcases List.mem_cons.1 hf with rfl | hf
  ·rcases hk with hk | hk
   ·exact ⟨poolF x.1.1 x.1.2.1,by simp,hk⟩
   ·exact ⟨poolF z.1.1 z.1.2.1,by simp,hk⟩
  ·exact ⟨f,List.mem_cons_of_mem _ (List.mem_cons_of_mem _ hf),hk⟩
 ·rcases hk with hk | hk
  ·exact (ha.2.1 k hk).trans (z.2.2.1 k (.inr hk)).symm
  ·exact ha.1 k hk
end
theorem turns_trans {w0:World} {D fs gs:List Fact} (h:Turns w0 D fs) (h' : Turns w0 fs gs):Turns w0 D gs:=fun h1 h2=>by
 obtain ⟨a1,a2,a3,a4⟩:=h h1 h2
 obtain ⟨b1,b2,b3,b4⟩:=h' a1 a2
 refine ⟨b1,b2,fun f hf k hk=>?_,fun w hb ha=>b4 w hb (a4 w hb ha)⟩
 obtain ⟨g,hg,hk2⟩:=b3 f hf k hk
 exact a3 g hg k hk2
abbrev turnAt {β δ:Type} {S:Nat→Prop} {W:World} {R:World→(Nat→Prop)→β→Prop} {R2:World→(Nat→Prop)→δ→Prop} (x:Dat R S W) (d:δ) (h:R2 x.1.1 (fun k=>S k∨x.1.2.1 k) d):Dat R2 S W:=⟨(x.1.1,x.1.2.1,d),h,x.2.2⟩
section
variable {S:Nat→Prop} {W:World} {α β γ:Type} {RA:World→(Nat→Prop)→α→Prop} {RB' : World→(Nat→Prop)→β→Prop} {RC:World→(Nat→Prop)→γ→Prop}
abbrev glue3 (ka:Keeps3 RA) (y:Dat RA S W) (kb:Keeps3 RB') (x1:Dat RB' (Un S y.1.2.1) y.1.1) (kc:Keeps3 RC) (x2:Dat RC (Un (Un S y.1.2.1) x1.1.2.1) x1.1.1):=glue ka y (keeps_and kb kc) (glue kb x1 kc x2)
theorem turns_three {w0:World} (ka:Keeps3 RA) (y:Dat RA S W) (kb:Keeps3 RB') (x1:Dat RB' (Un S y.1.2.1) y.1.1) (kc:Keeps3 RC) (x2:Dat RC (Un (Un S y.1.2.1) x1.1.2.1) x1.1.1) {E:List Fact} :
  Turns w0 (poolF x2.1.1 x2.1.2.1 :: poolF x1.1.1 x1.1.2.1 :: poolF y.1.1 y.1.2.1 :: E) (poolF (glue3 ka y kb x1 kc x2).1.1 (glue3 ka y kb x1 kc x2).1.2.1 :: E) :=
 turns_trans (turns_glue2 kb x1 kc x2) (turns_glue2 ka y (keeps_and kb kc) (glue kb x1 kc x2))
end
end Go.Proofs.Ytlipgnenbdchmaa.dsk
end
