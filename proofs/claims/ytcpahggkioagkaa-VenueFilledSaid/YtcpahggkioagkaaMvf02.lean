/-
  Own
-/
import Derived.Test.YtcpahggkioagkaaMvf01
import Derived.Maps.AppendAt
import Derived.Laws.OwnMore
import Derived.OwnWalk
import Derived.RegionTactic
import Derived.ChangeAlike
import Derived.Deep.QuietTactic
import Derived.BigQuiet
import Derived.BigRegion
set_option linter.unusedVariables false
set_option linter.unusedSimpArgs false
namespace Go.Proofs.Ytcpahggkioagkaa
set_option maxRecDepth 20000
open Go.RowKit
def OwnInts (w:World) (base:Nat) (e:TypeId) (k:IntKind) (A:Option Addr) (n c:Nat) (xs:List Int):Prop :=
 w.ownsRow base e 1 (.slice A n c) n (xs.map (Value.int k))∧∀ x ∈ xs,(Lit.int k x).wf=true
section
variable {w w' : World} {base n c:Nat} {e:TypeId} {k:IntKind} {A:Option Addr} {xs:List Int}
theorem OwnInts.nil:OwnInts w base e k none 0 0 []:=⟨World.ownsRow_nil _ _ _ _,by simp⟩
theorem OwnInts.len (h:OwnInts w base e k A n c xs):xs.length=n:=by simpa using h.1.1
theorem OwnInts.ints (h:OwnInts w base e k A n c xs):Ints k w w.heap.size A xs:=Ints.of_own h.2 h.1
theorem OwnInts.alloc (h:OwnInts w base e k A n c xs) (o:Obj):OwnInts (w.alloc o) base e k A n c xs:=⟨h.1.alloc o,h.2⟩
theorem OwnInts.new {t:TypeId} {cs:Array Value} (hb:base≤w.heap.size) (xs:List Int) (he:cs.toList=xs.map (Value.int k)) (hw:∀ x ∈ xs,(Lit.int k x).wf=true) (hn:xs.length=n) (hm:n≤maxLen) :
  OwnInts (w.alloc (.cells cs t)) base t k (some ⟨w.heap.size,0,none⟩) n n xs:=by
 have hl:cs.size=n * 1:=by rw [← Array.length_toList,he,List.length_map,hn,Nat.mul_one]
 have h:=World.ownsRow_lit (base:=base) (e:=t) (size:=1) w cs n hb hm hl
 rw [he] at h
 exact ⟨h,hw⟩
theorem OwnInts.block (h:OwnInts w base e k A n c xs):∀ g,(Value.slice A n c).ownBlock=some g→base≤g∧g < w.heap.size:=h.1.lt
end
theorem OwnInts.at_ {w:World} {base n c:Nat} {e:TypeId} {k:IntKind} {A:Option Addr} {xs:List Int} (h:OwnInts w base e k A n c xs) {j:Nat} (hj:j < n) :
  ∃ g x,A=some ⟨g,0,none⟩∧base≤g∧g < w.heap.size∧Hid (xs[j]?=some x)∧w.cell? ⟨g,j,none⟩=some (.int k x)∧(Lit.int k x).wf=true∧w.frozen? ⟨g,j,none⟩=false:=by
 obtain ⟨g,cap,hv,hb,hlt⟩:=World.ownsRow.form h.1 (by omega)
 have hA:A=some ⟨g,0,none⟩:=by injection hv
 subst hA
 have hl:=h.len
 refine ⟨g,xs[j],rfl,hb,hlt,Lib.hid (List.getElem?_eq_getElem (by omega)),?_,h.2 _ (List.getElem_mem _),World.ownsRow.frozenAt h.1 j⟩
 rw [World.ownsRow.cellAt h.1 j (by omega)]
 simp [List.getElem?_eq_getElem (show j < xs.length by omega)]
theorem OwnInts.drew {w:World} {base n c:Nat} {e:TypeId} {k:IntKind} {A:Option Addr} {xs:List Int} (h:OwnInts w base e k A n c xs):OwnInts w.drew base e k A n c xs:=h
theorem run_append_no_address {P:Program} {w:World} (base:Nat) (t ty e:TypeId) (i:TypeInfo) (size:Nat) (ht:P.underlying t=some (.slice e)) (hi:P.info? e=some i)
  (v:Value) (n:Nat) (xs:List Value) (hown:w.ownsRow base e size v n xs) (c:Nat):(Builtin.append_ #[t,t] ty #[v,.slice none 0 c]).run P w = .ok v w:=by
 rcases hown.2 with ⟨rfl,_⟩ | ⟨g,cap,cur,rfl,_,_,hnc,_⟩
 ·simp [Builtin.append_,run_underlying ht,sizeOf,typeInfo,hi,Builtin.lenOf,Builtin.firstCells]
 ·simp [Builtin.append_,run_underlying ht,sizeOf,typeInfo,hi,Builtin.lenOf,Builtin.firstCells,hnc,storeCells]
def cutAt (A:Option Addr) (cap k size:Nat):Option Addr:=if cap=k then A else A.map (·.add (k * size))
theorem run_cut_from {P:Program} (t e size bytes:Nat) (z:Value) (ht:P.underlying t=some (.slice e)) (hinfo:(P.info? e).map (fun i=>(i.zero,i.size,i.bytes))=some (some z,size,bytes))
  (A:Option Addr) (n c k:Nat) (hk:k≤n) (w:World):(Instr.slice t (.slice A n c) (some (.int .i64 (k:Int))) none none).run P w = .ok (.slice (cutAt A c k size) (n - k) (c - k)) w:=by
 obtain ⟨i,hi,_,hsz,_⟩:=info_parts hinfo
 have he:P.elem t=e:=by simp [Program.elem,ht]
 rw [run_slice_l w t A n c (by rw [he];exact ht) .i64 (k:Int) (by omega) (by omega),he]
 simp [sizeOf,typeInfo,hi,Result.andThen,sliced,cutAt,hsz]
theorem Ints.cut {k:IntKind} {w:World} {B:Nat} {A:Option Addr} {xs:List Int} (h:Ints k w B A xs) (m:Nat) (cap:Nat) (hc:xs.length≤cap):Ints k w B (cutAt A cap m 1) (xs.drop m):=by
 have:=h.drop m cap hc
 unfold cutAt
 simpa using this
end Go.Proofs.Ytcpahggkioagkaa
