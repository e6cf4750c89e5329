/-
  WalStr, WalDat
-/
import Derived.Test.YtcpahggkioagkaaMvf21
import Derived.Test.YtcpahggkioagkaaMvf19
import Derived.LaidLaws
import Derived.Lib.LaidTab
import Derived.Sort.Grow
import Derived.WideLaws
set_option linter.unusedVariables false
set_option linter.unusedSimpArgs false
section
namespace Go.Proofs.Ytcpahggkioagkaa
set_option maxRecDepth 20000
open Go.RowKit
variable {P:Program} {w0:World} {D:List Fact}
theorem turns_none {w0:World} {D:List Fact} {α:Type} {R:Rd α} (hK:Keeps R) {size:Nat} {e:TypeId} : Turns w0 D [ownF R size e none 0 0 ([]:List α)]:=fun _ _ =>
 ⟨fun f hf=>by rw [List.mem_singleton.1 hf];exact ownF_stable hK,List.pairwise_singleton _ _,fun f hf k hk=>by rw [List.mem_singleton.1 hf] at hk;simp [ownF,Value.ownBlock] at hk,fun w _ _=>⟨OwnElems.nil,trivial⟩⟩
theorem slice_from {P:Program} {t e:TypeId} (ht:P.underlying t=some (.slice e)) {size bytes:Nat} {z:Value} (hinfo:(P.info? e).map (fun i=>(i.zero,i.size,i.bytes))=some (some z,size,bytes)) {A:Option Addr} {n c k:Nat} (hk:k≤n) (w:World) :
  (Instr.sliceAt t (.slice A n c) (some (.int .i64 (k:Int))) none none).run P w = .ok (.slice (cutAt A c k size) (n - k) (c - k)) w:=by
 have hs:(Instr.sliceAt t (.slice A n c) (some (.int .i64 (k:Int))) none none).run P w=(Instr.slice t (.slice A n c) (some (.int .i64 (k:Int))) none none).run P w:=by
  unfold Instr.sliceAt
  rw [Sem.run_bind,run_underlying ht w]
  rfl
 rw [hs,run_cut_from t e size bytes z ht hinfo A n c k hk w]
end Go.Proofs.Ytcpahggkioagkaa
end
section
namespace Go.Proofs.Ytcpahggkioagkaa
set_option maxRecDepth 20000
open Go.RowKit
abbrev Un (S Q:Nat→Prop):Nat→Prop:=fun k=>S k∨Q k
abbrev Nw (S:Nat→Prop) (w w' : World):Nat→Prop:=fun k=>S k∨(w.heap.size≤k∧k < w'.heap.size)
section
variable {P:Program} {w0:World} {D:List Fact} {S:Nat→Prop} {W:World} {β:Type} {R:World→(Nat→Prop)→β→Prop}
theorem fixed_next (hF:Fixed w0 D S W) (x:Dat R S W) {i:Nat} (hi:D[i]?=some (poolF x.1.1 x.1.2.1)):Fixed w0 D (Un S x.1.2.1) x.1.1:=fun w hw ha=>⟨fun k hk=>by
  rcases hk with hk | hk
  ·exact ((hF w hw ha).1 k hk).trans (x.2.2.1 k hk).symm
  ·exact pool_at hi ha k hk,fun k hk=>by
  rcases hk with hk | hk
  ·exact (hF w hw ha).2 k hk
  ·have h1:=pool_at hi ha k hk
   rw [Array.getElem?_eq_getElem (x.2.2.2 k hk)] at h1
   exact (Array.getElem?_eq_some_iff.1 h1).1⟩
theorem dat_in (hK:Keeps3 R) (hF:Fixed w0 D S W) (x:Dat R S W) {i:Nat} (hi:D[i]?=some (poolF x.1.1 x.1.2.1)):∀ w,Below w0.heap.size w0 w→All D w→R w (Un S x.1.2.1) x.1.2.2 :=
 fun w hw ha=>x.later hK (hF w hw ha).1 (pool_at hi ha)
theorem agree_refl (S:Nat→Prop) (w:World):Agree S w w:=fun _ _=>rfl
theorem dat_all (hK:Keeps3 R) (hF:Fixed w0 D S W) (x:Dat R S W) {i:Nat} (hi:D[i]?=some (poolF x.1.1 x.1.2.1)):∀ w,Below w0.heap.size w0 w→All D w→R w (Lt w.heap.size) x.1.2.2 :=
 fun w hw ha=>hK w w _ _ _ (dat_in hK hF x hi w hw ha) (agree_refl _ _) ((fixed_next hF x hi w hw ha).2)
theorem dat_new (hK:Keeps3 R) (hF:Fixed w0 D S W) (x:Dat R S W) {i:Nat} (hi:D[i]?=some (poolF x.1.1 x.1.2.1)) {S0:Nat→Prop} {w' : World} (hb:Below w0.heap.size w0 w') (ha:All D w') (hy:∀ f ∈ D,∀ k,f.S k→w0.heap.size≤k∧k < w'.heap.size)
  (hS:∀ k,S k→Nw S0 w0 w' k):R w' (Nw S0 w0 w') x.1.2.2 :=
 hK w' w' _ _ _ (dat_in hK hF x hi w' hb ha) (agree_refl _ _) (fun k hk=>hk.elim (hS k) (fun h=>.inr (hy _ (List.mem_of_getElem? hi) k h)))
theorem new_base {S0:Nat→Prop} {w' : World} : ∀ k,S0 k→Nw S0 w0 w' k:=fun _ h=>.inl h
end
section
variable {S:Nat→Prop} {W:World} {β γ:Type} {R:World→(Nat→Prop)→β→Prop} {R' : World→(Nat→Prop)→γ→Prop}
abbrev glue (hK:Keeps3 R) (x:Dat R S W) (hK' : Keeps3 R') (z:Dat R' (Un S x.1.2.1) x.1.1):Dat (fun w S (b:β × γ)=>R w S b.1∧R' w S b.2) S W :=
 ⟨(z.1.1,Un x.1.2.1 z.1.2.1,(x.1.2.2,z.1.2.2)),⟨hK _ _ _ _ _ x.2.1 (fun k hk=>z.2.2.1 k hk) (fun k hk=>hk.elim .inl (fun h=>.inr (.inl h))),hK' _ _ _ _ _ z.2.1 (agree_refl _ _) (fun k hk=>by
   rcases hk with (hk | hk) | hk
   ·exact .inl hk
   ·exact .inr (.inl hk)
   ·exact .inr (.inr hk))⟩,fun k hk=>(z.2.2.1 k (.inl hk)).trans (x.2.2.1 k hk),fun k hk=>by
  rcases hk with hk | hk
  ·have h1:=z.2.2.1 k (.inr hk)
   rw [Array.getElem?_eq_getElem (x.2.2.2 k hk)] at h1
   exact (Array.getElem?_eq_some_iff.1 h1).1
  ·exact z.2.2.2 k hk⟩
abbrev turn {δ:Type} {R2:World→(Nat→Prop)→δ→Prop} (x:Dat R S W) (f:β→δ) (h:∀ w S' b,R w S' b→R2 w S' (f b)):Dat R2 S W:=⟨(x.1.1,x.1.2.1,f x.1.2.2),h _ _ _ x.2.1,x.2.2⟩
theorem turns_glue {w0:World} (hK:Keeps3 R) (x:Dat R S W) (hK' : Keeps3 R') (z:Dat R' (Un S x.1.2.1) x.1.1):Turns w0 [poolF z.1.1 z.1.2.1,poolF x.1.1 x.1.2.1] [poolF (glue hK x hK' z).1.1 (glue hK x hK' z).1.2.1]:=fun _ _ =>
 ⟨fun f hf=>by rw [List.mem_singleton.1 hf];exact poolF_stable _ _,List.pairwise_singleton _ _,fun f hf k hk=>by
  rw [List.mem_singleton.1 hf] at hk
  rcases hk with hk | hk
  ·exact ⟨poolF x.1.1 x.1.2.1,by simp,hk⟩
  ·exact ⟨poolF z.1.1 z.1.2.1,by simp,hk⟩,fun w' _ ha=>⟨fun k hk=>by
  rcases hk with hk | hk
  ·exact (ha.2.1 k hk).trans (z.2.2.1 k (.inr hk)).symm
  ·exact ha.1 k hk,trivial⟩⟩
abbrev given_ {w:World} {b:β} (h:R w S b) (hK:Keeps3 R):Dat R S w:=⟨(w,(fun _=>False),b),hK _ _ _ _ _ h (agree_refl _ _) (fun _ h=>.inl h),fun _ _=>rfl,fun _ h=>h.elim⟩
theorem news_pool0 {w0 w:World} {n:Nat} : News (fun _=>False) n [poolF w0 (fun _=>False)] w :=
 ⟨⟨fun _ h=>h.elim,trivial⟩,fun f hf k hk=>by rw [List.mem_singleton.1 hf] at hk;exact hk.elim,List.pairwise_singleton _ _,fun f hf=>by rw [List.mem_singleton.1 hf];exact poolF_stable _ _⟩
end
end Go.Proofs.Ytcpahggkioagkaa
end
