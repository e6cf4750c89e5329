/-
  WalStr, WalDat
-/
import Derived.Test.YtalhdalinpdanaaGreatDoorMwl10
import Derived.Test.YtalhdalinpdanaaGreatDoorMwl06
import Derived.LaidLaws
import Derived.Lib.LaidTab
import Derived.Sort.Grow
import Derived.WideLaws
set_option linter.unusedVariables false
set_option linter.unusedSimpArgs false
section
namespace Go.Proofs.YtalhdalinpdanaaGreatDoor
set_option maxRecDepth 20000
open Go.RowKit
variable {P:Program} {w0:World} {D:List Fact}
theorem str_add {T:TypeId} {a b c:ByteArray} (hc:a++b=c) (h:a.size+b.size≤9223372036854775807) (ox oy:Operand) :
  Yields0 P w0 D (do eqGuard .add T ox oy (.string a) (.string b);Go.binOp .add T (.string a) (.string b)) (.string c):=by
 subst hc
 intro w _ _
 have h2:¬ ((a.size:Int)+(b.size:Int) > 9223372036854775807):=by omega
 simp [eqGuard,Go.binOp,Sem.run_bind,Result.andThen_ok,Op.stringOp,IntKind.max,IntKind.signed,IntKind.bits,h2]
theorem list_eq {a b:ByteArray} : (a.toList == b.toList)=decide (a=b):=by
 rw [Bool.eq_iff_iff,beq_iff_eq,decide_eq_true_eq,ByteArray.toList_eq,ByteArray.toList_eq]
 constructor
 ·intro h
  obtain ⟨⟨x⟩⟩:=a
  obtain ⟨⟨y⟩⟩:=b
  simp at h
  rw [h]
 ·intro h;rw [h]
theorem str_eql {T:TypeId} {a b:ByteArray} (ox oy:Operand) :
  Yields0 P w0 D (do eqGuard .eql T ox oy (.string a) (.string b);Go.binOp .eql T (.string a) (.string b)) (.bool (decide (a=b))):=by
 intro w _ _
 rw [← list_eq]
 simp [eqGuard,Go.binOp,Sem.run_bind,Result.andThen_ok,Op.stringOp]
theorem str_neq {T:TypeId} {a b:ByteArray} (ox oy:Operand) :
  Yields0 P w0 D (do eqGuard .neq T ox oy (.string a) (.string b);Go.binOp .neq T (.string a) (.string b)) (.bool (!decide (a=b))):=by
 intro w _ _
 rw [← list_eq]
 simp [eqGuard,Go.binOp,Sem.run_bind,Result.andThen_ok,Op.stringOp]
theorem nil_neq {T:TypeId} (h:P.underlying T=some (.interface (P.methodsAt T))) {ox:Operand} {v:Value} :
  Yields0 P w0 D (do eqGuard .neq T ox (.const v) .nilIface .nilIface;Go.binOp .neq T .nilIface .nilIface) (.bool false):=by
 intro w _ _
 have h2:(Go.binOp .neq T .nilIface .nilIface).run P w = .ok (.bool false) w:=by
  simp only [Go.binOp,Sem.run_bind,run_equal_nil_nil w T h,Result.andThen_ok,Sem.run_pure,Bool.not_true]
 simp only [eqGuard,Sem.run_bind,Result.andThen_ok]
 simp [h2,Result.andThen_ok]
theorem iface_neq {T te:TypeId} (h:P.underlying T=some (.interface (P.methodsAt T))) {pe:Value} (ox oy:Operand) :
  Yields0 P w0 D (do eqGuard .neq T ox oy (.iface te pe) .nilIface;Go.binOp .neq T (.iface te pe) .nilIface) (.bool true):=by
 intro w _ _
 have h2:(Go.binOp .neq T (.iface te pe) .nilIface).run P w = .ok (.bool true) w:=run_neq_held_nil w T te pe h
 simp only [eqGuard,Sem.run_bind,Result.andThen_ok]
 simp [h2,Result.andThen_ok]
theorem var_later {name:String} {cs:Array Value} {w w' : World} (h:w.var? P name=some cs) (hb:Below w.heap.size w w'):w'.var? P name=some cs:=by
 unfold World.var? at h ⊢
 cases hg:P.globalNamed name with
 |none=>rw [hg] at h;cases h
 |some g =>
  rw [hg] at h
  simp only [Option.bind_some] at h ⊢
  have hlt:g < w.heap.size:=by
   rcases Nat.lt_or_ge g w.heap.size with hl | hge
   ·exact hl
   ·rw [Array.getElem?_eq_none hge] at h;cases h
  rw [hb.block g hlt];exact h
theorem below_grow (w:World) (k:Nat) (os:Array Obj):Below w.heap.size w (Sort.grow (w.drewN k) os):=by
 have h1:Below w.heap.size w (w.drewN k):=below_drewN (Below.refl _ _) _
 refine ⟨h1.os,h1.tape,h1.output,?_,fun j hj=>?_⟩
 ·have:=h1.size
  show w.heap.size≤((w.drewN k).heap++os).size
  rw [Array.size_append];omega
 ·have h2:j < (w.drewN k).heap.size:=Nat.lt_of_lt_of_le hj h1.size
  show ((w.drewN k).heap++os)[j]?=_
  rw [Array.getElem?_append_left h2]
  exact h1.block j hj
theorem low_load {T:TypeId} {d:TypeDesc} {g off:Nat} {cs:Array Value} {v:Value} (hr:Reads0 w0 [] g 0 cs) (hu:P.underlying T=some d) (hd:d.isRow=false) (hv:cs[off]?=some v):Yields0 P w0 D (Instr.loadAt T (.pointer (some ⟨g,off,none⟩))) v:=fun w hw ha=>by
 have h0:=hr w hw trivial off v hv
 rw [Nat.zero_add] at h0
 have:=run_loadVar_one (P:=P) hu hd h0
 simp only [Instr.loadAt,Instr.sureAddr,Sem.run_bind,Sem.run_pure,Result.andThen_ok,this]
theorem reads_block {w:World} {g:Nat} {cs:Array Value} {T:TypeId} (h:w.heap[g]?=some (.cells cs T (0,0))):Reads0 w [] g 0 cs:=fun w' hw _ i v hv=>by
 have hlt:g < w.heap.size:=by
  rcases Nat.lt_or_ge g w.heap.size with hl | hg
  ·exact hl
  ·rw [Array.getElem?_eq_none hg] at h;cases h
 rw [Nat.zero_add]
 exact (block_cell ((hw.block g hlt).trans h) i v hv).1
theorem turns_none {w0:World} {D:List Fact} {α:Type} {R:Rd α} (hK:Keeps R) {size:Nat} {e:TypeId} : Turns w0 D [ownF R size e none 0 0 ([]:List α)]:=fun _ _ =>
 ⟨fun f hf=>by rw [List.mem_singleton.1 hf];exact ownF_stable hK,List.pairwise_singleton _ _,fun f hf k hk=>by rw [List.mem_singleton.1 hf] at hk;simp [ownF,Value.ownBlock] at hk,fun w _ _=>⟨OwnElems.nil,trivial⟩⟩
theorem slice_from {P:Program} {t e:TypeId} (ht:P.underlying t=some (.slice e)) {size bytes:Nat} {z:Value} (hinfo:(P.info? e).map (fun i=>(i.zero,i.size,i.bytes))=some (some z,size,bytes)) {A:Option Addr} {n c k:Nat} (hk:k≤n) (w:World) :
  (Instr.sliceAt t (.slice A n c) (some (.int .i64 (k:Int))) none none).run P w = .ok (.slice (cutAt A c k size) (n - k) (c - k)) w:=by
 have hs:(Instr.sliceAt t (.slice A n c) (some (.int .i64 (k:Int))) none none).run P w=(Instr.slice t (.slice A n c) (some (.int .i64 (k:Int))) none none).run P w:=by
  unfold Instr.sliceAt
  rw [Sem.run_bind,run_underlying ht w]
  rfl
 rw [hs,run_cut_from t e size bytes z ht hinfo A n c k hk w]
theorem slice_upto {P:Program} {t e:TypeId} (ht:P.underlying t=some (.slice e)) {size bytes:Nat} {z:Value} (hinfo:(P.info? e).map (fun i=>(i.zero,i.size,i.bytes))=some (some z,size,bytes)) {A:Option Addr} {n c k:Nat} (hk:k≤c) (w:World) :
  (Instr.sliceAt t (.slice A n c) none (some (.int .i64 (k:Int))) none).run P w = .ok (.slice A k c) w:=by
 have hs:(Instr.sliceAt t (.slice A n c) none (some (.int .i64 (k:Int))) none).run P w=(Instr.slice t (.slice A n c) none (some (.int .i64 (k:Int))) none).run P w:=by
  unfold Instr.sliceAt
  rw [Sem.run_bind,run_underlying ht w]
  rfl
 rw [hs,run_cut_upto t e size bytes z ht hinfo A n c k _ rfl hk w]
theorem cut_to {P:Program} {w0:World} {D:List Fact} {α:Type} {t e size bytes:Nat} {z:Value} (ht:P.underlying t=some (.slice e)) (hinfo:(P.info? e).map (fun i=>(i.zero,i.size,i.bytes))=some (some z,size,bytes)) {A:Option Addr} {c:Nat} (xs:List α) (k:Nat) (hk:k≤xs.length) (hc:xs.length≤c) :
  Yields0 P w0 D (Instr.sliceAt t (.slice A xs.length c) none (some (.int .i64 (k:Int))) none) (.slice A (xs.take k).length c):=fun w _ _=>by
 rw [List.length_take,Nat.min_eq_left hk]
 exact slice_upto ht hinfo (Nat.le_trans hk hc) w
theorem cut_from {P:Program} {w0:World} {D:List Fact} {α:Type} {t e size bytes:Nat} {z:Value} (ht:P.underlying t=some (.slice e)) (hinfo:(P.info? e).map (fun i=>(i.zero,i.size,i.bytes))=some (some z,size,bytes)) {A:Option Addr} {c:Nat} (xs:List α) (k:Nat) (hk:k≤xs.length) :
  Yields0 P w0 D (Instr.sliceAt t (.slice A xs.length c) (some (.int .i64 (k:Int))) none none) (.slice (cutAt A c k size) (xs.drop k).length (c - k)):=fun w _ _=>by
 rw [List.length_drop]
 exact slice_from ht hinfo hk w
end Go.Proofs.YtalhdalinpdanaaGreatDoor
end
section
namespace Go.Proofs.YtalhdalinpdanaaGreatDoor
set_option maxRecDepth 20000
open Go.RowKit
abbrev Un (S Q:Nat→Prop):Nat→Prop:=fun k=>S k∨Q k
abbrev Nw (S:Nat→Prop) (w w' : World):Nat→Prop:=fun k=>S k∨(w.heap.size≤k∧k < w'.heap.size)
section
variable {P:Program} {w0:World} {D:List Fact} {S:Nat→Prop} {W:World} {β:Type} {R:World→(Nat→Prop)→β→Prop}
theorem fixed_next (hF:Fixed w0 D S W) (x:Dat R S W) {i:Nat} (hi:D[i]?=some (poolF x.1.1 x.1.2.1)):Fixed w0 D (Un S x.1.2.1) x.1.1:=fun w hw ha=>⟨fun k hk=>by
  rcases hk with hk | hk
  ·exact ((hF w hw ha).1 k hk).trans (x.2.2.1 k hk).symm
  ·exact pool_at hi ha k hk,fun k hk=>by
  rcases hk with hk | hk
  ·exact (hF w hw ha).2 k hk
  ·have h1:=pool_at hi ha k hk
   rw [Array.getElem?_eq_getElem (x.2.2.2 k hk)] at h1
   exact (Array.getElem?_eq_some_iff.1 h1).1⟩
theorem dat_in (hK:Keeps3 R) (hF:Fixed w0 D S W) (x:Dat R S W) {i:Nat} (hi:D[i]?=some (poolF x.1.1 x.1.2.1)):∀ w,Below w0.heap.size w0 w→All D w→R w (Un S x.1.2.1) x.1.2.2 :=
 fun w hw ha=>x.later hK (hF w hw ha).1 (pool_at hi ha)
theorem agree_refl (S:Nat→Prop) (w:World):Agree S w w:=fun _ _=>rfl
theorem dat_all (hK:Keeps3 R) (hF:Fixed w0 D S W) (x:Dat R S W) {i:Nat} (hi:D[i]?=some (poolF x.1.1 x.1.2.1)):∀ w,Below w0.heap.size w0 w→All D w→R w (Lt w.heap.size) x.1.2.2 :=
 fun w hw ha=>hK w w _ _ _ (dat_in hK hF x hi w hw ha) (agree_refl _ _) ((fixed_next hF x hi w hw ha).2)
theorem dat_new (hK:Keeps3 R) (hF:Fixed w0 D S W) (x:Dat R S W) {i:Nat} (hi:D[i]?=some (poolF x.1.1 x.1.2.1)) {S0:Nat→Prop} {w' : World} (hb:Below w0.heap.size w0 w') (ha:All D w') (hy:∀ f ∈ D,∀ k,f.S k→w0.heap.size≤k∧k < w'.heap.size)
  (hS:∀ k,S k→Nw S0 w0 w' k):R w' (Nw S0 w0 w') x.1.2.2 :=
 hK w' w' _ _ _ (dat_in hK hF x hi w' hb ha) (agree_refl _ _) (fun k hk=>hk.elim (hS k) (fun h=>.inr (hy _ (List.mem_of_getElem? hi) k h)))
theorem new_un {S0:Nat→Prop} {w' : World} {W1:World} {Q:Nat→Prop} {i:Nat} (hi:D[i]?=some (poolF W1 Q)) (hy:∀ f ∈ D,∀ k,f.S k→w0.heap.size≤k∧k < w'.heap.size) (hS:∀ k,S k→Nw S0 w0 w' k):∀ k,Un S Q k→Nw S0 w0 w' k :=
 fun k hk=>hk.elim (hS k) (fun h=>.inr (hy _ (List.mem_of_getElem? hi) k h))
theorem new_base {S0:Nat→Prop} {w' : World} : ∀ k,S0 k→Nw S0 w0 w' k:=fun _ h=>.inl h
end
section
variable {S:Nat→Prop} {W:World} {β γ:Type} {R:World→(Nat→Prop)→β→Prop} {R' : World→(Nat→Prop)→γ→Prop}
theorem keeps_and {R:World→(Nat→Prop)→β→Prop} {R' : World→(Nat→Prop)→γ→Prop} (h:Keeps3 R) (h' : Keeps3 R'):Keeps3 (fun w S (b:β × γ)=>R w S b.1∧R' w S b.2):=fun w w' S S' b hb ha hs=>⟨h w w' S S' _ hb.1 ha hs,h' w w' S S' _ hb.2 ha hs⟩
abbrev glue (hK:Keeps3 R) (x:Dat R S W) (hK' : Keeps3 R') (z:Dat R' (Un S x.1.2.1) x.1.1):Dat (fun w S (b:β × γ)=>R w S b.1∧R' w S b.2) S W :=
 ⟨(z.1.1,Un x.1.2.1 z.1.2.1,(x.1.2.2,z.1.2.2)),⟨hK _ _ _ _ _ x.2.1 (fun k hk=>z.2.2.1 k hk) (fun k hk=>hk.elim .inl (fun h=>.inr (.inl h))),hK' _ _ _ _ _ z.2.1 (agree_refl _ _) (fun k hk=>by
   rcases hk with (hk | hk) | hk
   ·exact .inl hk
   ·exact .inr (.inl hk)
   ·exact .inr (.inr hk))⟩,fun k hk=>(z.2.2.1 k (.inl hk)).trans (x.2.2.1 k hk),fun k hk=>by
  rcases hk with hk | hk
  ·have h1:=z.2.2.1 k (.inr hk)
   rw [Array.getElem?_eq_getElem (x.2.2.2 k hk)] at h1
   exact (Array.getElem?_eq_some_iff.1 h1).1
  ·exact z.2.2.2 k hk⟩
abbrev turn {δ:Type} {R2:World→(Nat→Prop)→δ→Prop} (x:Dat R S W) (f:β→δ) (h:∀ w S' b,R w S' b→R2 w S' (f b)):Dat R2 S W:=⟨(x.1.1,x.1.2.1,f x.1.2.2),h _ _ _ x.2.1,x.2.2⟩
theorem turns_glue {w0:World} (hK:Keeps3 R) (x:Dat R S W) (hK' : Keeps3 R') (z:Dat R' (Un S x.1.2.1) x.1.1):Turns w0 [poolF z.1.1 z.1.2.1,poolF x.1.1 x.1.2.1] [poolF (glue hK x hK' z).1.1 (glue hK x hK' z).1.2.1]:=fun _ _ =>
 ⟨fun f hf=>by rw [List.mem_singleton.1 hf];exact poolF_stable _ _,List.pairwise_singleton _ _,fun f hf k hk=>by
  rw [List.mem_singleton.1 hf] at hk
  rcases hk with hk | hk
  ·exact ⟨poolF x.1.1 x.1.2.1,by simp,hk⟩
  ·exact ⟨poolF z.1.1 z.1.2.1,by simp,hk⟩,fun w' _ ha=>⟨fun k hk=>by
  rcases hk with hk | hk
  ·exact (ha.2.1 k hk).trans (z.2.2.1 k (.inr hk)).symm
  ·exact ha.1 k hk,trivial⟩⟩
abbrev given_ {w:World} {b:β} (h:R w S b) (hK:Keeps3 R):Dat R S w:=⟨(w,(fun _=>False),b),hK _ _ _ _ _ h (agree_refl _ _) (fun _ h=>.inl h),fun _ _=>rfl,fun _ h=>h.elim⟩
theorem news_pool0 {w0 w:World} {n:Nat} : News (fun _=>False) n [poolF w0 (fun _=>False)] w :=
 ⟨⟨fun _ h=>h.elim,trivial⟩,fun f hf k hk=>by rw [List.mem_singleton.1 hf] at hk;exact hk.elim,List.pairwise_singleton _ _,fun f hf=>by rw [List.mem_singleton.1 hf];exact poolF_stable _ _⟩
end
end Go.Proofs.YtalhdalinpdanaaGreatDoor
end
