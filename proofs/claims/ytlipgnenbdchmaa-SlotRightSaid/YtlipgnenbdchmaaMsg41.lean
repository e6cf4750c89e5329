/-
  SlotO, Api14
-/
import Derived.Test.YtlipgnenbdchmaaMsg13
import Derived.Test.YtlipgnenbdchmaaMsg39
import Derived.Test.YtlipgnenbdchmaaMsg40
import Derived.Test.YtlipgnenbdchmaaRows
set_option linter.unusedVariables false
set_option linter.unusedSimpArgs false
section
namespace Go.Proofs.Ytlipgnenbdchmaa.slot
set_option maxRecDepth 20000
open Go.RowKit Go.Proofs.Ytlipgnenbdchmaa Go.Proofs.Ytlipgnenbdchmaa.disk
open Go.Proofs.Ytlipgnenbdchmaa.wal (Dv dc InD RetD RetB)
open Go.Proofs.Ytlipgnenbdchmaa.dsk (low_alike RB keeps_bys)
open Go.Proofs.Ytlipgnenbdchmaa.frame (be be_len be_lt u le4 num num_lt seg sg)
def sc (s:Sl):Array Value:=#[.int .i64 s.g,.int .i64 s.l]
def z20:List Nat:=[0,0,0,0,0,0,0,0,0,0,0,0,0,0,0,0,0,0,0,0]
def arr20 (l:List Nat):Array Value:=#[.int .u8 ((l.getD 0 0:Nat):Int),.int .u8 ((l.getD 1 0:Nat):Int),.int .u8 ((l.getD 2 0:Nat):Int),.int .u8 ((l.getD 3 0:Nat):Int),.int .u8 ((l.getD 4 0:Nat):Int),.int .u8 ((l.getD 5 0:Nat):Int),.int .u8 ((l.getD 6 0:Nat):Int),.int .u8 ((l.getD 7 0:Nat):Int),.int .u8 ((l.getD 8 0:Nat):Int),.int .u8 ((l.getD 9 0:Nat):Int),.int .u8 ((l.getD 10 0:Nat):Int),.int .u8 ((l.getD 11 0:Nat):Int),.int .u8 ((l.getD 12 0:Nat):Int),.int .u8 ((l.getD 13 0:Nat):Int),.int .u8 ((l.getD 14 0:Nat):Int),.int .u8 ((l.getD 15 0:Nat):Int),.int .u8 ((l.getD 16 0:Nat):Int),.int .u8 ((l.getD 17 0:Nat):Int),.int .u8 ((l.getD 18 0:Nat):Int),.int .u8 ((l.getD 19 0:Nat):Int)]
theorem arr20_is {l:List Nat} (h:l.length=20):arr20 l=arrB l:=by
 match l,h with
 | [a0,a1,a2,a3,a4,a5,a6,a7,a8,a9,b0,b1,b2,b3,b4,b5,b6,b7,b8,b9],_=>rfl
theorem info_u8:(Try.prog.info? 5).map (fun i=>(i.zero,i.size,i.bytes))=some (some (.int .u8 0),1,1):=by kernel_rfl
theorem byte_cells (w:World) (S:Nat→Prop) (cs:List Value) (x:Int) (h:rdInt .u8 w S cs x):cs=(#[.int .u8 x]:Array Value).toList:=h.1
theorem turns_cast {w0:World} {D fs gs:List Fact} (e:fs=gs) (h:Turns w0 D fs):Turns w0 D gs:=e▸h
section
variable {P:Program} {w0:World} {D:List Fact} {T:TypeId} {a:Int}
theorem shr_i64 {m:Nat} (h:m≤64) (ox oy:Operand):Yields0 P w0 D (do eqGuard .shr T ox oy (.int .i64 a) (.int .i64 (m:Int));Go.binOp .shr T (.int .i64 a) (.int .i64 (m:Int))) (.int .i64 (a / 2 ^ m)):=fun w _ _=>by
 have e:(Op.shift .shr .i64 a .i64 (m:Int))=pure (.int .i64 (a / 2 ^ m)):=by
  have:=shift_shr_i64 (x:=a) (yk:=.i64) (y:=(m:Int)) (by omega) (by omega)
  rw [Int.toNat_natCast] at this;exact this
 show (do eqGuard .shr T ox oy _ _;Op.shift .shr .i64 a .i64 (m:Int)).run P w=_
 rw [e];rfl
theorem shr_u32 {m:Nat} (h:m≤32) (ox oy:Operand):Yields0 P w0 D (do eqGuard .shr T ox oy (.int .u32 a) (.int .i64 (m:Int));Go.binOp .shr T (.int .u32 a) (.int .i64 (m:Int))) (.int .u32 (a / 2 ^ m)):=fun w _ _=>by
 have e:(Op.shift .shr .u32 a .i64 (m:Int))=pure (.int .u32 (a / 2 ^ m)):=by
  have:=shift_shr_u32 (x:=a) (yk:=.i64) (y:=(m:Int)) (by omega) (by omega)
  rw [Int.toNat_natCast] at this;exact this
 show (do eqGuard .shr T ox oy _ _;Op.shift .shr .u32 a .i64 (m:Int)).run P w=_
 rw [e];rfl
theorem be_getD:∀ (k n i:Nat),i < k→(be k n).getD i 0=n / 256 ^ (k - 1 - i) % 256
 | 0,_,_,h=>absurd h (Nat.not_lt_zero _)
 |k+1,n,0,_=>by simp [be]
 |k+1,n,i+1,h=>by
  have:=be_getD k n i (by omega)
  rw [be,List.getD_cons_succ,this,show k+1 - 1 - (i+1)=k - 1 - i by omega]
theorem byte_of {m:Nat} (hm:m≤7):a / 2 ^ (8 * m) % 256=((u a / 256 ^ m % 256:Nat):Int):=by
 have h:m=0∨m=1∨m=2∨m=3∨m=4∨m=5∨m=6∨m=7:=by omega
 unfold u
 rcases h with rfl | rfl | rfl | rfl | rfl | rfl | rfl | rfl<;>simp only [Nat.reduceMul,Int.reducePow,Nat.reducePow]<;>omega
theorem conv_b {src dst:TypeId} {ds:TypeDesc} {y:Nat} {kk:IntKind} (hs:P.underlying src=some ds) (hd:P.underlying dst=some (.int .u8)) (hy:y < 8) :
  Yields0 P w0 D (convert src dst (.int kk (a / 2 ^ (8 * y)))) (.int .u8 (((be 8 (u a)).getD (7 - y) 0:Nat):Int)):=fun w _ _=>by
 have hk' : P.intKind dst = .u8:=by simp [Program.intKind,hd]
 rw [run_convert_int w src dst kk _ (by rw [hs];rfl) (by rw [hk'];exact hd),hk']
 rw [IntKind.wrap_u8,be_getD 8 _ (7 - y) (by omega),show 8 - 1 - (7 - y)=y by omega,byte_of (m:=y) (by omega)]
theorem conv_s {src dst:TypeId} {ds:TypeDesc} {n m i:Nat} {kk:IntKind} (hs:P.underlying src=some ds) (hd:P.underlying dst=some (.int .u8)) (hm:m=8 * i) (hi:i < 4) :
  Yields0 P w0 D (convert src dst (.int kk ((n:Int) / 2 ^ m))) (.int .u8 (((le4 n).getD i 0:Nat):Int)):=fun w _ _=>by
 have hk' : P.intKind dst = .u8:=by simp [Program.intKind,hd]
 rw [run_convert_int w src dst kk _ (by rw [hs];rfl) (by rw [hk'];exact hd),hk']
 rw [IntKind.wrap_u8]
 subst hm
 have h:i=0∨i=1∨i=2∨i=3:=by omega
 have e0:(2:Int) ^ (8 * 0)=1:=by decide
 have e1:(2:Int) ^ (8 * 1)=256:=by decide
 have e2:(2:Int) ^ (8 * 2)=65536:=by decide
 have e3:(2:Int) ^ (8 * 3)=16777216:=by decide
 rcases h with rfl | rfl | rfl | rfl
 ·rw [e0];show Result.ok (Value.int .u8 ((n:Int) / 1 % 256)) w=Result.ok (Value.int .u8 ((n % 256:Nat):Int)) w;rw [show (n:Int) / 1 % 256=((n % 256:Nat):Int) by omega]
 ·rw [e1];show Result.ok (Value.int .u8 ((n:Int) / 256 % 256)) w=Result.ok (Value.int .u8 ((n / 256 % 256:Nat):Int)) w;rw [show (n:Int) / 256 % 256=((n / 256 % 256:Nat):Int) by omega]
 ·rw [e2];show Result.ok (Value.int .u8 ((n:Int) / 65536 % 256)) w=Result.ok (Value.int .u8 ((n / 65536 % 256:Nat):Int)) w;rw [show (n:Int) / 65536 % 256=((n / 65536 % 256:Nat):Int) by omega]
 ·rw [e3];show Result.ok (Value.int .u8 ((n:Int) / 16777216 % 256)) w=Result.ok (Value.int .u8 ((n / 16777216 % 256:Nat):Int)) w;rw [show (n:Int) / 16777216 % 256=((n / 16777216 % 256:Nat):Int) by omega]
theorem conv_64 {src dst:TypeId} {ds:TypeDesc} {n:Nat} {kk:IntKind} (hs:P.underlying src=some ds) (hd:P.underlying dst=some (.int .i64)) (h:n < 256) :
  Yields0 P w0 D (convert src dst (.int kk (n:Int))) (.int .i64 (n:Int)):=fun w _ _=>by
 have hk' : P.intKind dst = .i64:=by simp [Program.intKind,hd]
 rw [run_convert_int w src dst kk _ (by rw [hs];rfl) (by rw [hk'];exact hd),hk',wrap_is (x:=(n:Int)) (y:=(n:Int)) rfl (by omega) (by omega)]
theorem box_idx {t e:TypeId} (ht:P.underlying t=some (.slice e)) {bytes:Nat} {z:Value} (hinfo:(P.info? e).map (fun i=>(i.zero,i.size,i.bytes))=some (some z,1,bytes)) {b off n c j:Nat} {k:IntKind} (hj:j < n):Yields0 P w0 D (Instr.indexAt t (.slice (some ⟨b,off,none⟩) n c) (.int k (j:Int))) (.pointer (some ⟨b,off+j,none⟩)):=fun w _ _=>by
 have:=index_run ht hinfo (b:=b) (off:=off) (c:=c) (k:=k) hj w
 rw [Nat.mul_one] at this
 exact this
theorem cut_lh {t e:TypeId} (ht:P.underlying t=some (.slice e)) {size bytes:Nat} {z:Value} (hinfo:(P.info? e).map (fun i=>(i.zero,i.size,i.bytes))=some (some z,size,bytes)) {A:Option Addr} {n c:Nat} (lo hi:Nat) (h1:lo≤hi) (h2:hi≤c) (w:World) :
  (Instr.sliceAt t (.slice A n c) (some (.int .i64 (lo:Int))) (some (.int .i64 (hi:Int))) none).run P w = .ok (.slice (cutAt A c lo size) (hi - lo) (c - lo)) w:=by
 obtain ⟨i,hi',hz,hsz,hby⟩:=info_parts hinfo
 have he:P.elem t=e:=by simp [Program.elem,ht]
 have hs:(Instr.sliceAt t (.slice A n c) (some (.int .i64 (lo:Int))) (some (.int .i64 (hi:Int))) none).run P w=(Instr.slice t (.slice A n c) (some (.int .i64 (lo:Int))) (some (.int .i64 (hi:Int))) none).run P w:=by
  unfold Instr.sliceAt
  rw [Sem.run_bind,run_underlying ht w]
  rfl
 rw [hs,run_slice_lh (P:=P) w t A n c (by rw [he];exact ht) .i64 .i64 (lo:Int) (hi:Int) (by omega) (by omega) (by omega)]
 rw [he]
 simp [sizeOf,typeInfo,hi',Result.andThen,sliced,cutAt,hsz]
theorem box_all {i g:Nat} {l:List Nat} {e t:TypeId} {d:TypeDesc} (hi:D[i]?=some (cellsF g (arrB l) e)) (hl:l.length=20) (hu:P.underlying t=some d) (hr:(d.isRow && ((P.info? t).map (·.size) == some 20))=true):Yields0 P w0 D (Instr.loadAt t (.pointer (some ⟨g,0,none⟩))) (.agg (arr20 l)):=fun w hw ha=>by
 rw [Bool.and_eq_true] at hr
 have hs:=hr.2
 have:=run_loadVar_mid (P:=P) w g 0 t (arrB l).toList d (fun j v hv=>by rw [Nat.zero_add];exact (block_cell (block_at hi w ha) j v (by simpa using hv)).1) hu hr.1 (by rw [eq_of_beq hs];simp [arrB,hl])
 rw [arr20_is hl]
 simp only [Instr.loadAt,Instr.sureAddr,Sem.run_bind,Sem.run_pure,Result.andThen_ok,this]
theorem arr_at {A:Option Addr} {l:List Nat} {t:TypeId} {d:TypeDesc} {B:Nat} (hx:Elems (rdInt .u8) 1 w0 (Lt B) A (toI l)∧B≤w0.heap.size) (hl:l.length=20) (hu:P.underlying t=some d) (hr:(d.isRow && ((P.info? t).map (·.size) == some 20))=true):Yields0 P w0 D (Instr.loadAt t (.pointer A)) (.agg (arr20 l)):=fun w hw ha=>by
 rw [Bool.and_eq_true] at hr
 have hs:=hr.2
 obtain ⟨b,off,rfl,hb,hc⟩:=hx.1 (by rw [toI_len];omega)
 have:=run_loadVar_mid (P:=P) w b off t (arrB l).toList d (fun j v hv=>by
  have hj:j < l.length:=by have:=(List.getElem?_eq_some_iff.1 hv).1;simpa [arrB] using this
  obtain ⟨cs,hl1,hcs,hr1⟩:=hc j ((toI l).getD j 0) (at_getD (by rw [toI_len];exact hj))
  have e1:v = .int .u8 ((toI l).getD j 0):=by
   have h9:=arrB_at hj
   rw [← Array.getElem?_toList,hv] at h9
   injection h9 with h9
   rw [h9]
   congr 1
   unfold toI
   rw [List.getD_eq_getElem?_getD,List.getD_eq_getElem?_getD,List.getElem?_map]
   cases l[j]?<;>rfl
  have h2:=hcs 0 (.int .u8 ((toI l).getD j 0)) (by rw [hr1.1];rfl)
  rw [Nat.mul_one,Nat.add_zero] at h2
  rw [e1]
  exact (hw.cell (p:=⟨b,off+j,none⟩) (Nat.lt_of_lt_of_le hb hx.2)).trans h2) hu hr.1 (by rw [eq_of_beq hs];simp [arrB,hl])
 rw [arr20_is hl]
 simp only [Instr.loadAt,Instr.sureAddr,Sem.run_bind,Sem.run_pure,Result.andThen_ok,this]
end
section
variable {P:Program} {w0:World} {D:List Fact} {g i:Nat} {cs:Array Value} {e:TypeId}
theorem cell_load {T:TypeId} {d:TypeDesc} {off:Nat} {v:Value} (hi:D[i]?=some (cellsF g cs e)) (hu:P.underlying T=some d) (hd:d.isRow=false) (hv:cs[off]?=some v):Yields0 P w0 D (Instr.loadAt T (.pointer (some ⟨g,off,none⟩))) v:=fun w hw ha=>by
 have:=run_loadVar_one (P:=P) hu hd ((block_cell (block_at hi w ha) off v hv).1)
 simp only [Instr.loadAt,Instr.sureAddr,Sem.run_bind,Sem.run_pure,Result.andThen_ok,this]
end
theorem el_of {w:World} {S:Nat→Prop} {A:Option Addr} {L:List Nat} (h:BysIn w S A L):Elems (rdInt .u8) 1 w S A (toI L):=fun h0=>by
 obtain ⟨b,off,e,hS,hc⟩:=h.2 h0
 refine ⟨b,off,e,hS,fun j x hj=>⟨[.int .u8 x],rfl,fun i c hi=>?_,rfl,h.1 x (List.mem_of_getElem? hj)⟩⟩
 have hlt:j < (toI L).length:=(List.getElem?_eq_some_iff.1 hj).1
 have:=hc j hlt
 rw [List.getD_eq_getElem?_getD,hj] at this
 cases i with
 |zero=>simp at hi;subst hi;simpa using this
 |succ i=>simp at hi
theorem toI_at (l:List Nat) (j:Nat):(toI l).getD j 0=((l.getD j 0:Nat):Int):=by
 unfold toI
 rw [List.getD_eq_getElem?_getD,List.getD_eq_getElem?_getD,List.getElem?_map]
 cases l[j]?<;>rfl
theorem getD_lt {l:List Nat} (h:∀ b ∈ l,b < 256) (j:Nat):l.getD j 0 < 256:=by
 rw [List.getD_eq_getElem?_getD]
 cases e:l[j]? with
 |none=>decide
 |some b=>exact h b (List.mem_of_getElem? e)
def putAt (l:List Nat) (off:Nat) (n:Int):List Nat:=l.take off++be 8 (u n)++l.drop (off+8)
def putN (l:List Nat) (off:Nat) (n:Int) (y:Nat):List Nat:=l.take (off+8 - y)++(be 8 (u n)).drop (8 - y)++l.drop (off+8)
theorem be8_len (n:Nat):(be 8 n).length=8:=be_len 8 n
section
variable {l:List Nat} {off y:Nat} {n:Int}
theorem putN_len (h:off+8≤l.length) (hy:y≤8):(putN l off n y).length=l.length:=by
 unfold putN
 rw [List.length_append,List.length_append,List.length_take,List.length_drop,List.length_drop,be8_len]
 omega
theorem putN_zero (h:off+8≤l.length):putN l off n 0=l:=by
 unfold putN
 rw [List.drop_of_length_le (l:=be 8 (u n)) (by rw [be8_len];omega),List.append_nil,Nat.sub_zero,List.take_append_drop]
theorem putN_full:putN l off n 8=putAt l off n:=by
 unfold putN putAt
 rw [Nat.sub_self,List.drop_zero,Nat.add_sub_cancel]
theorem putN_step (h:off+8≤l.length) (hy:y < 8):(putN l off n y).set (off+(7 - y)) ((be 8 (u n)).getD (7 - y) 0)=putN l off n (y+1):=by
 unfold putN
 have h1:(l.take (off+8 - y)).length=off+8 - y:=by rw [List.length_take];omega
 rw [List.append_assoc,List.set_append_left _ _ (by omega),List.append_assoc]
 have e1:off+8 - y=off+(7 - y)+1:=by omega
 have e2:off+8 - (y+1)=off+(7 - y):=by omega
 have e3:8 - (y+1)=7 - y:=by omega
 have e4:8 - y=7 - y+1:=by omega
 have hb:=be8_len (u n)
 have e5:(be 8 (u n)).drop (7 - y)=(be 8 (u n)).getD (7 - y) 0 :: (be 8 (u n)).drop (7 - y+1):=by
  rw [List.drop_eq_getElem_cons (by omega),List.getD_eq_getElem?_getD,List.getElem?_eq_getElem (by omega)];rfl
 have e6:l.take (off+(7 - y)+1)=l.take (off+(7 - y))++[l.getD (off+(7 - y)) 0]:=by
  rw [List.take_add_one,List.getD_eq_getElem?_getD,List.getElem?_eq_getElem (by omega)];rfl
 rw [e1,e2,e3,e4,e5,e6,List.set_append_right _ _ (by rw [List.length_take];omega)]
 have e7:off+(7 - y) - (l.take (off+(7 - y))).length=0:=by rw [List.length_take];omega
 rw [e7]
 simp
theorem putAt_len (h:off+8≤l.length):(putAt l off n).length=l.length:=by rw [← putN_full];exact putN_len h (by omega)
end
theorem put_body (s:Sl):putAt (putAt z20 0 s.g) 8 s.l=body s++[0,0,0,0]:=by
 unfold putAt body
 have h1:(List.take 0 z20++be 8 (u s.g)++List.drop (0+8) z20)=be 8 (u s.g)++List.drop 8 z20:=by simp
 rw [h1,List.take_left' (be8_len _),List.drop_append,be8_len,List.drop_of_length_le (by rw [be8_len];omega)]
 simp [z20]
theorem put2_len (s:Sl):(putAt (putAt z20 0 s.g) 8 s.l).length=20:=by rw [put_body];simp [body_len]
theorem put_take (s:Sl):((putAt (putAt z20 0 s.g) 8 s.l).drop 0).take 16=body s:=by rw [put_body,List.drop_zero,List.take_left' (body_len s)]
theorem put_lt (s:Sl):∀ b ∈ putAt (putAt z20 0 s.g) 8 s.l,b < 256:=by
 rw [put_body]
 intro b hb
 rcases List.mem_append.1 hb with hb | hb
 ·exact body_lt s b hb
 ·simp at hb;omega
theorem told_done (s:Sl):((((putAt (putAt z20 0 s.g) 8 s.l).set 16 ((le4 (crc.more 0 (body s))).getD 0 0)).set 17 ((le4 (crc.more 0 (body s))).getD 1 0)).set 18 ((le4 (crc.more 0 (body s))).getD 2 0)).set 19 ((le4 (crc.more 0 (body s))).getD 3 0)=enc s:=by
 rw [put_body]
 unfold enc
 have hl:=body_len s
 rw [List.set_append_right _ _ (by omega),List.set_append_right _ _ (by omega),List.set_append_right _ _ (by omega),List.set_append_right _ _ (by omega),hl]
 simp [le4]
theorem q_box {w0:World} {D:List Fact} {g i:Nat} {l:List Nat} {e:TypeId} (hi:D[i]?=some (cellsF g (arrB l) e)) (hb:∀ b ∈ l,b < 256) {w' : World} (hB:Below w0.heap.size w0 w') (ha:All D w') (hy:∀ f ∈ D,∀ k,f.S k→w0.heap.size≤k∧k < w'.heap.size) {S:Nat→Prop} : BysIn w' (fun k=>S k∨(w0.heap.size≤k∧k < w'.heap.size)) (some ⟨g,0,none⟩) l:=by
 have h:=arr_bys (block_at hi w' ha) hb (p:=0) (k:=l.length) (by omega)
 rw [List.drop_zero,List.take_length] at h
 refine ⟨h.1,fun h0=>?_⟩
 obtain ⟨b,off,e1,h2,h3⟩:=h.2 h0
 injection e1 with e1
 injection e1 with e1 e2
 subst e1 e2
 exact ⟨_,_,rfl,.inr (hy _ (List.mem_of_getElem? hi) _ rfl),h3⟩
end Go.Proofs.Ytlipgnenbdchmaa.slot
end
section
namespace Go.Proofs.Ytlipgnenbdchmaa
set_option maxRecDepth 20000
open Go.RowKit
abbrev SlotD:Type:=slot.Sl
def rdSlot:Rd SlotD:=fun w S cs s=>cs=(slot.sc s).toList∧s.fine
theorem of_slot:OfTrod Try.prog 26 rdSlot:=fun H enc w fuel cs x h=>by
 have hl:=struct_len Try.underlying26 h
 rw [show Try.prog.cellsOf 26=2 by kernel_rfl] at hl
 obtain ⟨a,e0,h0⟩:=of_field Try.underlying26 h 0 _ rfl 1 (by kernel_rfl) (of_int Try.underlying2)
 obtain ⟨b,e1,h1⟩:=of_field Try.underlying26 h 1 _ rfl 1 (by kernel_rfl) (of_int Try.underlying2)
 match cs,hl with
 | [c0,c1],_ =>
  simp at e0 e1
  subst e0 e1
  exact ⟨⟨a,b⟩,rfl,inI_of_wf h0,inI_of_wf h1⟩
end Go.Proofs.Ytlipgnenbdchmaa
end
