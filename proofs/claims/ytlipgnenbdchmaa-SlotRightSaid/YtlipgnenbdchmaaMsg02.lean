/-
  Own
-/
import Derived.Test.YtlipgnenbdchmaaMsg01
import Derived.Maps.AppendAt
import Derived.Laws.OwnMore
import Derived.OwnWalk
import Derived.RegionTactic
import Derived.ChangeAlike
import Derived.Deep.QuietTactic
import Derived.BigQuiet
import Derived.BigRegion
set_option linter.unusedVariables false
set_option linter.unusedSimpArgs false
namespace Go.Proofs.Ytlipgnenbdchmaa
set_option maxRecDepth 20000
open Go.RowKit
def OwnInts (w:World) (base:Nat) (e:TypeId) (k:IntKind) (A:Option Addr) (n c:Nat) (xs:List Int):Prop :=
 w.ownsRow base e 1 (.slice A n c) n (xs.map (Value.int k))∧∀ x ∈ xs,(Lit.int k x).wf=true
section
variable {w w' : World} {base n c:Nat} {e:TypeId} {k:IntKind} {A:Option Addr} {xs:List Int}
theorem OwnInts.nil:OwnInts w base e k none 0 0 []:=⟨World.ownsRow_nil _ _ _ _,by simp⟩
theorem OwnInts.len (h:OwnInts w base e k A n c xs):xs.length=n:=by simpa using h.1.1
theorem OwnInts.ints (h:OwnInts w base e k A n c xs):Ints k w w.heap.size A xs:=Ints.of_own h.2 h.1
theorem OwnInts.alloc (h:OwnInts w base e k A n c xs) (o:Obj):OwnInts (w.alloc o) base e k A n c xs:=⟨h.1.alloc o,h.2⟩
theorem OwnInts.new {t:TypeId} {cs:Array Value} (hb:base≤w.heap.size) (xs:List Int) (he:cs.toList=xs.map (Value.int k)) (hw:∀ x ∈ xs,(Lit.int k x).wf=true) (hn:xs.length=n) (hm:n≤maxLen) :
  OwnInts (w.alloc (.cells cs t)) base t k (some ⟨w.heap.size,0,none⟩) n n xs:=by
 have hl:cs.size=n * 1:=by rw [← Array.length_toList,he,List.length_map,hn,Nat.mul_one]
 have h:=World.ownsRow_lit (base:=base) (e:=t) (size:=1) w cs n hb hm hl
 rw [he] at h
 exact ⟨h,hw⟩
theorem OwnInts.block (h:OwnInts w base e k A n c xs):∀ g,(Value.slice A n c).ownBlock=some g→base≤g∧g < w.heap.size:=h.1.lt
end
theorem OwnInts.at_ {w:World} {base n c:Nat} {e:TypeId} {k:IntKind} {A:Option Addr} {xs:List Int} (h:OwnInts w base e k A n c xs) {j:Nat} (hj:j < n) :
  ∃ g x,A=some ⟨g,0,none⟩∧base≤g∧g < w.heap.size∧Hid (xs[j]?=some x)∧w.cell? ⟨g,j,none⟩=some (.int k x)∧(Lit.int k x).wf=true∧w.frozen? ⟨g,j,none⟩=false:=by
 obtain ⟨g,cap,hv,hb,hlt⟩:=World.ownsRow.form h.1 (by omega)
 have hA:A=some ⟨g,0,none⟩:=by injection hv
 subst hA
 have hl:=h.len
 refine ⟨g,xs[j],rfl,hb,hlt,Lib.hid (List.getElem?_eq_getElem (by omega)),?_,h.2 _ (List.getElem_mem _),World.ownsRow.frozenAt h.1 j⟩
 rw [World.ownsRow.cellAt h.1 j (by omega)]
 simp [List.getElem?_eq_getElem (show j < xs.length by omega)]
theorem OwnInts.drew {w:World} {base n c:Nat} {e:TypeId} {k:IntKind} {A:Option Addr} {xs:List Int} (h:OwnInts w base e k A n c xs):OwnInts w.drew base e k A n c xs:=h
theorem Ints.drewN {k:IntKind} {w:World} {B:Nat} {A:Option Addr} {xs:List Int} (h:Ints k w B A xs) (m:Nat):Ints k (w.drewN m) B A xs:=h
theorem run_append_no_address {P:Program} {w:World} (base:Nat) (t ty e:TypeId) (i:TypeInfo) (size:Nat) (ht:P.underlying t=some (.slice e)) (hi:P.info? e=some i)
  (v:Value) (n:Nat) (xs:List Value) (hown:w.ownsRow base e size v n xs) (c:Nat):(Builtin.append_ #[t,t] ty #[v,.slice none 0 c]).run P w = .ok v w:=by
 rcases hown.2 with ⟨rfl,_⟩ | ⟨g,cap,cur,rfl,_,_,hnc,_⟩
 ·simp [Builtin.append_,run_underlying ht,sizeOf,typeInfo,hi,Builtin.lenOf,Builtin.firstCells]
 ·simp [Builtin.append_,run_underlying ht,sizeOf,typeInfo,hi,Builtin.lenOf,Builtin.firstCells,hnc,storeCells]
theorem run_append_ints {P:Program} {w:World} (base:Nat) (t ty e:TypeId) (k:IntKind) (bytes:Nat) (ht:P.underlying t=some (.slice e))
  (hinfo:(P.info? e).map (fun i=>(i.zero,i.size,i.bytes))=some (some (.int k 0),1,bytes))
  {A:Option Addr} {n c:Nat} {xs:List Int} (hown:OwnInts w base e k A n c xs) {B:Nat} {A2:Option Addr} {m c2:Nat} {ys:List Int} (hr:Ints k w B A2 ys) (hm:ys.length=m)
  (h63:n+m≤maxLen) (hbytes:(n+m) * bytes≤140737488355328) (hbase:base≤w.heap.size) :
  ∃ A' c' w',(Builtin.append_ #[t,t] ty #[.slice A n c,.slice A2 m c2]).run P w = .ok (.slice A' (n+m) c') w'∧OwnInts w' base e k A' (n+m) c' (xs++ys) ∧
   w.grownBy w' (Value.slice A n c).ownBlock∧((Value.slice A' (n+m) c').ownBlock=(Value.slice A n c).ownBlock∨(Value.slice A' (n+m) c').ownBlock=some w.heap.size):=by
 obtain ⟨i,hi,hz,hsz,hby⟩:=info_parts hinfo
 have hwf:∀ x ∈ xs++ys,(Lit.int k x).wf=true:=by
  intro x hx
  rcases List.mem_append.1 hx with h | h
  ·exact hown.2 x h
  ·exact hr.1 x h
 by_cases h0:m=0
 ·subst h0
  have hys:ys=[]:=List.eq_nil_of_length_eq_zero hm
  subst hys
  rcases A2 with _ | ad
  ·exact ⟨A,c,w,run_append_no_address base t ty e i 1 ht hi _ n _ hown.1 c2,by simpa using hown,World.grownBy.refl w _,.inl rfl⟩
  ·obtain ⟨v',w',hrun,h2,h3,_,h5⟩:=run_append_own_at (P:=P) w base t ty e i (.int k 0) 1 bytes ht hi hz hsz hby rfl (by omega) _ n _ hown.1 ad 0 c2 [] (by simp) (by simp) (by simp) h63 hbytes hbase
   have hf:=h2
   rcases h2.2 with ⟨rfl,hn0⟩ | ⟨g,cap,cur,rfl,_⟩
   ·refine ⟨none,0,w',by rw [hrun,hn0],⟨?_,hwf⟩,h3,?_⟩
    ·rw [hn0] at hf ⊢;simpa using hf
    ·rw [hn0];exact h5
   ·exact ⟨some ⟨g,0,none⟩,cap,w',hrun,⟨by simpa using hf,hwf⟩,h3,h5⟩
 ·obtain ⟨b,off,rfl,hlt,hc⟩:=hr.2 (by omega)
  obtain ⟨v',w',hrun,h2,h3,_,h5⟩:=run_append_own_at (P:=P) w base t ty e i (.int k 0) 1 bytes ht hi hz hsz hby rfl (by omega) _ n _ hown.1 ⟨b,off,none⟩ m c2 (ys.map (Value.int k)) (by simp [hm])
   (by
    intro j u hj
    rw [List.getElem?_map] at hj
    obtain ⟨y,hy,rfl⟩:=Option.map_eq_some_iff.1 hj
    obtain ⟨hjl,rfl⟩:=List.getElem?_eq_some_iff.1 hy
    have:=hc j hjl
    simp only [List.getD,List.getElem?_eq_getElem hjl,Option.getD_some] at this
    rw [← this]
    by_cases hj0:j=0<;>simp [Addr.add,hj0])
   (by intro u hu;obtain ⟨y,_,rfl⟩:=List.mem_map.1 hu;rfl) h63 hbytes hbase
  obtain ⟨g,cap,rfl,_,_⟩:=World.ownsRow.form h2 (by omega)
  exact ⟨_,_,w',hrun,⟨by simpa using h2,hwf⟩,h3,h5⟩
def cutAt (A:Option Addr) (cap k size:Nat):Option Addr:=if cap=k then A else A.map (·.add (k * size))
theorem Ints.cut {k:IntKind} {w:World} {B:Nat} {A:Option Addr} {xs:List Int} (h:Ints k w B A xs) (m:Nat) (cap:Nat) (hc:xs.length≤cap):Ints k w B (cutAt A cap m 1) (xs.drop m):=by
 have:=h.drop m cap hc
 unfold cutAt
 simpa using this
theorem wpList_append_ints {P:Program} {w:World} {ops:Array Oper} {rest:List Oper} {o:Oper} {a:Act} {Q:Exit→Act→World→Prop} (hgd:o.guard=none) (s x:Operand) (t:TypeId)
  (ho:o.op = .call { callee:=.builtin .append,args:=#[s,x],argTypes:=#[t,t] })
  (base:Nat) (e:TypeId) (k:IntKind) (bytes:Nat) (ht:P.underlying t=some (.slice e)) (hinfo:(P.info? e).map (fun i=>(i.zero,i.size,i.bytes))=some (some (.int k 0),1,bytes))
  {A:Option Addr} {n c:Nat} {xs:List Int} (hs:a.eval s = .slice A n c) (hown:OwnInts w base e k A n c xs)
  {B:Nat} {A2:Option Addr} {m c2:Nat} {ys:List Int} (hx:a.eval x = .slice A2 m c2) (hr:Ints k w B A2 ys) (hm:ys.length=m)
  (h63:n+m≤maxLen) (hbytes:(n+m) * bytes≤140737488355328) (hbase:base≤w.heap.size)
  (h:∀ A' c' w',OwnInts w' base e k A' (n+m) c' (xs++ys)→w.grownBy w' (Value.slice A n c).ownBlock →
   ((Value.slice A' (n+m) c').ownBlock=(Value.slice A n c).ownBlock∨(Value.slice A' (n+m) c').ownBlock=some w.heap.size)→wpList P ops Q rest (a.put o.dst (.slice A' (n+m) c')) w') :
  wpList P ops Q (o :: rest) a w:=by
 refine wpList_plain hgd fun K hK=>?_
 obtain ⟨A',c',w',hr',h2,h3,h4⟩:=run_append_ints (P:=P) (w:=w) base t o.type e k bytes ht hinfo hown hr hm (c2:=c2) h63 hbytes hbase
 unfold Oper.wp execOp
 simp only [ho,resolve,invoke,builtin,Sem.run_bind,Sem.run_pure,Result.andThen_ok,List.map_toArray,List.map_cons,List.map_nil,hs,hx,hr']
 exact hK _ _ (h A' c' w' h2 h3 h4)
end Go.Proofs.Ytlipgnenbdchmaa
