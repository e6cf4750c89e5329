/-
  SlotN
-/
import Derived.Test.YtlipgnenbdchmaaMsg11
import Derived.Test.YtlipgnenbdchmaaMsg12
import Derived.Laws.BitsAllLaws
import Derived.Laws.Entries
set_option linter.unusedVariables false
set_option linter.unusedSimpArgs false
namespace Go.Proofs.Ytlipgnenbdchmaa.slot
set_option maxRecDepth 20000
open Go.RowKit Go.Proofs.Ytlipgnenbdchmaa
open Go.Proofs.Ytlipgnenbdchmaa.frame (be be_len be_lt u le4 num num_lt seg sg)
def arrB (l:List Nat):Array Value:=(l.map fun (b:Nat)=>Value.int .u8 (b:Int)).toArray
theorem arrB_size (l:List Nat):(arrB l).size=l.length:=by simp [arrB]
theorem arrB_at {l:List Nat} {j:Nat} (h:j < l.length):(arrB l)[j]?=some (.int .u8 ((l.getD j 0:Nat):Int)):=by
 unfold arrB
 rw [List.getElem?_toArray,List.getElem?_map,List.getElem?_eq_getElem h,List.getD_eq_getElem?_getD,List.getElem?_eq_getElem h];rfl
theorem arrB_set (l:List Nat) (j v:Nat) (h:j < l.length):((arrB l).toList.take j++[Value.int .u8 (v:Int)]++(arrB l).toList.drop (j+1)).toArray=arrB (l.set j v):=by
 unfold arrB
 congr 1
 rw [List.map_set,List.set_eq_take_append_cons_drop,if_pos (by rw [List.length_map];exact h)]
 simp
section
variable {P:Program} {w0:World} {D:List Fact} {g i j v:Nat} {l:List Nat} {e T:TypeId}
theorem arr_store (hi:D[i]?=some (cellsF g (arrB l) e)) (hs:(P.info? T).map (·.size)=some 1) (hj:j < l.length) :
  StepU P w0 D (Instr.storeAt T (.pointer (some ⟨g,j,none⟩)) (.int .u8 (v:Int))) (cellsF g (arrB l) e).S Unit (fun _=>undef) (fun _=>[cellsF g (arrB (l.set j v)) e]):=by
 intro w hw ha
 have hb:w.heap[g]?=some (.cells (arrB l) e (0,0)):=All_iff.1 ha _ (List.mem_of_getElem? hi)
 have he:Instr.storeAt T (.pointer (some ⟨g,j,none⟩)) (.int .u8 (v:Int))=Instr.storeAt T (.pointer (some ⟨g,j,none⟩)) (.agg #[.int .u8 (v:Int)]):=by
  simp only [Instr.storeAt,storeVar]
  rfl
 have ho:j+1≤(arrB l).size:=by rw [arrB_size];omega
 have hrow:=setCells_row (T:=e) (g:=g) [.int .u8 (v:Int)] j w (arrB l).toList (by simpa using hb) (by simpa using ho)
 refine ⟨(),w.setCells g j [.int .u8 (v:Int)],?_,rfl,⟨?_,?_,?_,?_,?_⟩,news_one ?_ (cellsF_stable _ _ _) (fun k hk=>?_)⟩
 ·rw [he]
  exact run_store_elem (n:=1) T hb rfl ho hs (by simp [Value.oneCell'])
 ·exact (setCells_below (Nat.zero_le _) _ _ w (Below.refl 0 w)).os
 ·exact (setCells_below (Nat.zero_le _) _ _ w (Below.refl 0 w)).tape
 ·exact (setCells_below (Nat.zero_le _) _ _ w (Below.refl 0 w)).output
 ·rw [setCells_size];exact Nat.le_refl _
 ·intro k _ hk
  exact setCells_other (fun e2=>hk e2) _ _ _
 ·show (w.setCells g j [.int .u8 (v:Int)]).heap[g]?=some (.cells (arrB (l.set j v)) e (0,0))
  rw [hrow,← arrB_set l j v hj];rfl
 ·simp only [cellsF] at hk
  subst hk
  refine ⟨.inl rfl,?_⟩
  rw [setCells_size]
  exact (Array.getElem?_eq_some_iff.1 hb).1
end
theorem arr_bys {w:World} {g:Nat} {l:List Nat} {e:TypeId} {p k:Nat} (h:w.heap[g]?=some (.cells (arrB l) e (0,0))) (hb:∀ b ∈ l,b < 256) (hp:p+k≤l.length):Bys w w.heap.size (some ⟨g,p,none⟩) ((l.drop p).take k):=by
 have hl:((l.drop p).take k).length=k:=by rw [List.length_take,List.length_drop];omega
 refine ⟨?_,?_⟩
 ·intro x hx
  obtain ⟨b,hm,rfl⟩:=List.mem_map.1 hx
  exact (wf_u8 _).2 (hb b (List.mem_of_mem_drop (List.mem_of_mem_take hm)))
 ·intro h0
  refine ⟨g,p,rfl,(Array.getElem?_eq_some_iff.1 h).1,fun j hj=>?_⟩
  have hj:j < k:=by
   have h9:(toI ((l.drop p).take k)).length=k:=by unfold toI;rw [List.length_map];exact hl
   exact h9▸hj
  have e1:=(block_cell h (p+j) _ (arrB_at (l:=l) (j:=p+j) (by omega))).1
  have e2:(toI ((l.drop p).take k)).getD j 0=((l.getD (p+j) 0:Nat):Int):=by
   unfold toI
   rw [List.getD_eq_getElem?_getD,List.getD_eq_getElem?_getD,List.getElem?_map,List.getElem?_take_of_lt hj,List.getElem?_drop]
   cases l[p+j]?<;>rfl
  rw [e2]
  exact e1
theorem sg_nat {n:Nat} (h:n < 18446744073709551616):(BitVec.ofInt 64 (sg n)).toNat=n:=by
 rw [BitVec.toNat_ofInt]
 unfold sg
 split<;>omega
theorem or_sg {n c:Nat} (h:n < 18446744073709551616) (h0:n % 256=0) (hc:c < 256):bits .or .i64 (sg n) (c:Int)=sg (n+c):=by
 have e1:(BitVec.ofInt 64 (c:Int)).toNat=c:=by rw [BitVec.toNat_ofInt];omega
 show IntKind.i64.wrap ((BitVec.ofInt 64 (sg n) ||| BitVec.ofInt 64 (c:Int)).toNat:Int)=_
 rw [BitVec.toNat_or,sg_nat h,e1,nat_join 8 n c (by omega) (by omega),IntKind.wrap_i64]
 unfold sg
 split<;>omega
theorem num_snoc8 {l:List Nat} {j:Nat} (hj:j < l.length):num (l.take (j+1))=num (l.take j) * 256+l.getD j 0:=by
 unfold num
 rw [List.take_add_one,List.getElem?_eq_getElem hj,List.foldl_append,List.getD_eq_getElem?_getD,List.getElem?_eq_getElem hj]
 rfl
theorem num_pow8 {l:List Nat} (hb:∀ b ∈ l,b < 256) {j:Nat} (hj:j < 8):num (l.take j) * 256 < 18446744073709551616:=by
 have h1:=num_lt (l.take j) (fun b h=>hb b (List.mem_of_mem_take h))
 have h2:(l.take j).length≤j:=by rw [List.length_take];omega
 have h3:(256:Nat) ^ (l.take j).length≤256 ^ 7:=Nat.pow_le_pow_right (by decide) (by omega)
 have h4:(256:Nat) ^ 7=72057594037927936:=by decide
 omega
section
variable {P:Program} {w0:World} {D:List Fact} {T:TypeId} {n c:Nat}
theorem shl_sg {kk:IntKind} (h:n * 256 < 18446744073709551616) (ox oy:Operand):Yields0 P w0 D (do eqGuard .shl T ox oy (.int .i64 (sg n)) (.int kk 8);Go.binOp .shl T (.int .i64 (sg n)) (.int kk 8)) (.int .i64 (sg (n * 256))):=fun w _ _=>by
 have e:(Op.shift .shl .i64 (sg n) kk 8)=pure (.int .i64 (sg (n * 256))):=by
  have:=shift_shl_i64 (x:=sg n) (yk:=kk) (y:=8) (by omega) (by omega)
  rw [this,IntKind.wrap_i64]
  congr 2
  have e8:(2:Int) ^ (8:Int).toNat=256:=by decide
  rw [e8]
  unfold sg
  split<;>split<;>omega
 show (do eqGuard .shl T ox oy _ _;Op.shift .shl .i64 (sg n) kk 8).run P w=_
 rw [e];rfl
theorem orr_sg (h:n * 256 < 18446744073709551616) (hc:c < 256) (ox oy:Operand):Yields0 P w0 D (do eqGuard .or T ox oy (.int .i64 (sg (n * 256))) (.int .i64 (c:Int));Go.binOp .or T (.int .i64 (sg (n * 256))) (.int .i64 (c:Int))) (.int .i64 (sg (n * 256+c))):=fun w _ _=>by
 show (do eqGuard .or T ox oy _ _;pure (Value.int .i64 (bits .or .i64 (sg (n * 256)) (c:Int)))).run P w=_
 rw [or_sg h (by omega) hc];rfl
end
end Go.Proofs.Ytlipgnenbdchmaa.slot
