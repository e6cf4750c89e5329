/-
  RowA
-/
import Derived.Test.YtbbjlfbemibfcaaGreatMrt19
import Derived.Lib.AppendStr
import Derived.Laws.MakeOwn
set_option linter.unusedVariables false
set_option linter.unusedSimpArgs false
namespace Go.Proofs.YtbbjlfbemibfcaaGreat.row
set_option maxRecDepth 20000
open Go.RowKit Go.Proofs.YtbbjlfbemibfcaaGreat
section
variable {P:Program} {w0:World} {D:List Fact}
theorem own_start {w:World} {g c:Nat} {k:IntKind} {e:TypeId} {cur:Array Value} (h:w.heap[g]?=some (.cells cur e (0,0))) (hs:cur.size=c) (hc:c≤maxLen):OwnElems (rdInt k) 1 w 0 e (fun _=>False) (some ⟨g,0,none⟩) 0 c [] :=
 ⟨[],⟨by simp,.inr ⟨g,c,cur,rfl,Nat.zero_le _,h,Nat.zero_le _,hc,by rw [hs,Nat.mul_one],by simp⟩⟩,trivial,rfl⟩
theorem make_cap {t e:TypeId} {k:IntKind} {bytes c:Nat} (ht:P.underlying t=some (.slice e)) (hinfo:(P.info? e).map (fun i=>(i.zero,i.size,i.bytes))=some (some (.int k 0),1,bytes)) (hb:bytes≤8) (hc:c≤1000000) :
  StepM P w0 D (Instr.makeSlice t (.int .i64 0) (.int .i64 (c:Int))) (fun _=>False) Nat (fun g=>.slice (some ⟨g,0,none⟩) 0 c) (fun g=>[ownF (rdInt k) 1 e (some ⟨g,0,none⟩) 0 c []]):=by
 intro w hw ha
 obtain ⟨i,hi,hzz⟩:=Option.map_eq_some_iff.1 hinfo
 simp only [Prod.mk.injEq] at hzz
 obtain ⟨hz,hs,hby⟩:=hzz
 have hbb:(i.bytes:Int) * (c:Int)≤281474976710656:=by
  rw [hby]
  have:bytes * c≤8 * 1000000:=Nat.mul_le_mul hb hc
  have:((bytes * c:Nat):Int)≤8000000:=by omega
  rw [Int.natCast_mul] at this;omega
 have hr:=run_make (P:=P) w t e i (.int k 0) ht hi hz .i64 .i64 0 (c:Int) (Int.le_refl _) (by omega) hbb (by omega)
 rw [Int.toNat_natCast,hs,Nat.mul_one] at hr
 refine ⟨w.heap.size,_,hr,frame_alloc _ _ _,news_one (own_start (heap_alloc_new _ _) (by simp [madeCells]) (by unfold maxLen;omega)) (ownF_stable (keeps_int k)) (fun g hg=>?_)⟩
 simp only [ownF,Value.ownBlock] at hg
 have hg:=Option.some.inj hg
 exact ⟨.inr (by omega),by simp;omega⟩
theorem append_str {t u ty e:TypeId} {bytes g c n:Nat} {s:ByteArray} {xs:List Nat} (ht:P.underlying t=some (.slice e)) (hu:P.underlying u=some .string) (hinfo:(P.info? e).map (fun i=>(i.zero,i.size,i.bytes))=some (some (.int .u8 0),1,bytes))
  (hs:s.data.toList.map (fun b=>b.toNat)=xs) (hn:s.size=n) (hc:n≤c) {j:Nat} (hj:D[j]?=some (ownF (rdInt .u8) 1 e (some ⟨g,0,none⟩) 0 c [])) :
  StepM P w0 D (Builtin.append_ #[t,u] ty #[.slice (some ⟨g,0,none⟩) 0 c,.string s]) (ownF (rdInt .u8) 1 e (some ⟨g,0,none⟩) 0 c []).S Unit (fun _=>.slice (some ⟨g,0,none⟩) n c) (fun _=>[ownF (rdInt .u8) 1 e (some ⟨g,0,none⟩) n c (toI xs)]):=by
 intro w hw ha
 subst hn
 obtain ⟨i,hi,hzz⟩:=Option.map_eq_some_iff.1 hinfo
 simp only [Prod.mk.injEq] at hzz
 obtain ⟨hz,hs1,hby⟩:=hzz
 have hrow:=row_at hj w ha
 obtain ⟨css,⟨hcl,hr⟩,hE,hlen⟩:=hrow
 have hxl:xs.length=s.size:=by rw [← hs,List.length_map,Array.length_toList];rfl
 rcases hr with ⟨hv,_⟩ | ⟨g',cap,cur,hv,_,hg,hnc,hcm,hsz,hcur⟩
 ·simp at hv
 ·simp only [Value.slice.injEq,Option.some.injEq,Addr.mk.injEq,and_true,true_and] at hv
  obtain ⟨rfl,rfl⟩:=hv
  rw [Nat.mul_one] at hsz
  have hrun:=Go.Lib.run_append_room_string (P:=P) w t u ty e i ht hu hi hs1 g 0 c cur hg s (by omega) (by omega)
  rw [Nat.zero_add,List.take_zero,List.nil_append] at hrun
  have hsc:(Go.Lib.strCells s).length=s.size:=Go.Lib.strCells_length s
  have hstr:Go.Lib.strCells s=(toI xs).map (Value.int .u8):=by
   unfold Go.Lib.strCells toI
   rw [← hs,List.map_map,List.map_map];rfl
  have hwf:∀ x ∈ toI xs,(Lit.int .u8 x).wf=true:=fun x hx=>by
   unfold toI at hx
   rw [← hs,List.map_map] at hx
   obtain ⟨b,_,rfl⟩:=List.mem_map.1 hx
   exact (wf_u8 _).2 b.toNat_lt
  refine ⟨(),_,hrun,⟨rfl,rfl,rfl,by simp,fun k hk hx=>?_⟩,news_one (own_ints ⟨⟨by rw [List.length_map,toI_len,hxl,Nat.mul_one],.inr ⟨g,c,_,rfl,Nat.zero_le _,setRow_heap w g cur _ e (0,0) hg,hc,hcm,?_,?_⟩⟩,hwf⟩) (ownF_stable (keeps_int .u8)) (fun k hk=>⟨.inl hk,?_⟩)⟩
  ·refine setRow_other w g k _ (fun e2=>hx ?_)
   simp only [ownF,Value.ownBlock,e2]
  ·rw [List.size_toArray,List.length_append,hsc,List.length_drop,Array.length_toList];omega
  ·rw [Nat.mul_one,List.take_append_of_le_length (by rw [hsc];omega),List.take_of_length_le (by rw [hsc];omega),hstr]
  ·simp only [ownF,Value.ownBlock] at hk
   have hk:=Option.some.inj hk
   subst hk
   rw [size_setRow]
   exact (Array.getElem?_eq_some_iff.1 hg).1
theorem wfs_nil {k:IntKind} : ∀ x ∈ ([]:List Int),(Lit.int k x).wf=true:=fun x hx=>(by cases hx)
theorem wfs_cons {k:IntKind} {a:Int} {l:List Int} (h:(Lit.int k a).wf=true) (ht:∀ x ∈ l,(Lit.int k x).wf=true):∀ x ∈ a :: l,(Lit.int k x).wf=true:=fun x hx=>by
 rcases List.mem_cons.1 hx with rfl | hx
 ·exact h
 ·exact ht x hx
theorem build_ints {m:Sem Value} {e:TypeId} {k:IntKind} {xs:List Int} (h:(newOf P m).map (fun x=>(x.1,x.2.1))=some ((xs.map (Value.int k)).toArray,e)) (hk:∀ g,(newOf P m).bind (fun x=>x.2.2 g)=some (.slice (some ⟨g,0,none⟩) xs.length xs.length))
  (hw:∀ x ∈ xs,(Lit.int k x).wf=true) (hn:xs.length≤1000):StepM P w0 D m (fun _=>False) Nat (fun g=>.slice (some ⟨g,0,none⟩) xs.length xs.length) (fun g=>[ownF (rdInt k) 1 e (some ⟨g,0,none⟩) xs.length xs.length xs]):=by
 intro w hw0 ha
 obtain ⟨x,w',h1,h2,h3⟩:=build_step2 (w0:=w0) (D:=D) h hk w hw0 ha
 have hb:=h3.all.1
 simp only [cellsF] at hb
 have hy:=h3.young (cellsF x (xs.map (Value.int k)).toArray e) (by simp) x rfl
 refine ⟨x,w',h1,h2,news_one (own_ints ⟨⟨by rw [List.length_map,Nat.mul_one],.inr ⟨x,_,_,rfl,Nat.zero_le _,hb,Nat.le_refl _,by unfold maxLen;omega,by simp,by rw [Nat.mul_one,List.take_of_length_le (by simp)]⟩⟩,hw⟩) (ownF_stable (keeps_int k)) (fun q hq=>?_)⟩
 simp only [ownF,Value.ownBlock,Option.some.injEq] at hq
 subst hq;exact hy
end
end Go.Proofs.YtbbjlfbemibfcaaGreat.row
