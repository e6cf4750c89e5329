/-
  RowN
-/
import Derived.Test.YtalhdalinpdanabGreatMrd45
import Derived.Test.YtalhdalinpdanabGreatMrd04
import Derived.Test.YtalhdalinpdanabGreatMrd43
set_option linter.unusedVariables false
set_option linter.unusedSimpArgs false
namespace Go.Proofs.YtalhdalinpdanabGreat.row
open Go.RowKit Go.Proofs.YtalhdalinpdanabGreat
set_option maxRecDepth 20000
open Go.Proofs.YtalhdalinpdanabGreat.frame (be be_len be_lt u le4)
open Go.Proofs.YtalhdalinpdanabGreat.book (St right)
open Go.Proofs.YtalhdalinpdanabGreat.order (Or oz)
def num (l:List Nat):Nat:=l.foldl (fun a b=>a * 256+b) 0
def at_ (L:List Nat) (p k:Nat):Int:=IntKind.i64.wrap ((num ((L.drop p).take k):Nat):Int)
def ordAt (L:List Nat) (p:Nat):Or:=⟨at_ L p 8,at_ L (p+8) 1,at_ L (p+9) 1,at_ L (p+10) 1,at_ L (p+12) 8,at_ L (p+20) 8,at_ L (p+28) 8,at_ L (p+11) 1,at_ L (p+36) 8,at_ L (p+44) 8,at_ L (p+52) 8,decide (at_ L (p+60) 1=1)⟩
section
variable {P:Program} {w0:World} {D:List Fact} {l L:List Nat} {i k p c gb ob:Nat}
theorem num_next (h:i < l.length):num (l.take (i+1))=num (l.take i) * 256+l.getD i 0:=by
 unfold num
 rw [List.take_add_one,List.getElem?_eq_getElem h,List.foldl_append,List.getD_eq_getElem?_getD,List.getElem?_eq_getElem h]
 rfl
theorem getD_lt (h:∀ b ∈ l,b < 256):l.getD i 0 < 256:=by
 rw [List.getD_eq_getElem?_getD]
 cases e:l[i]? with
 |none=>simp
 |some b=>exact h b (List.mem_of_getElem? e)
theorem num_pow (h:∀ b ∈ l,b < 256):∀ i,num (l.take i) < 256 ^ i
 | 0=>by simp [num]
 |i+1=>by
  by_cases hi:i < l.length
  ·rw [num_next hi,Nat.pow_succ]
   have:=num_pow h i
   have:=getD_lt (i:=i) h
   omega
  ·rw [List.take_of_length_le (by omega),← List.take_of_length_le (l:=l) (i:=i) (by omega),Nat.pow_succ]
   have:=num_pow h i
   omega
theorem num_256 (hi:i < 8) (h:∀ b ∈ l,b < 256):num (l.take i) * 256 < 18446744073709551616:=by
 have h1:=num_pow h i
 have h2:256 ^ i≤256 ^ 7:=Nat.pow_le_pow_right (by decide) (by omega)
 omega
theorem conv_up {src dst:TypeId} (hs:P.underlying src=some (.int .u8)) (hd:P.underlying dst=some (.int .u64)) (hi:i < l.length) (h:∀ b ∈ l,b < 256) :
  Yields0 P w0 D (convert src dst (.int .u8 ((toI l).getD i 0))) (.int .u64 ((l.getD i 0:Nat):Int)):=fun w _ _=>by
 have hk' : P.intKind dst = .u64:=by simp [Program.intKind,hd]
 have e:(toI l).getD i 0=((l.getD i 0:Nat):Int):=by
  rw [List.getD_eq_getElem?_getD,List.getD_eq_getElem?_getD];unfold toI;rw [List.getElem?_map,List.getElem?_eq_getElem hi];rfl
 have:=getD_lt (i:=i) h
 rw [run_convert_int w src dst .u8 _ (by rw [hs];rfl) (by rw [hk'];exact hd),hk',e,IntKind.wrap_u64]
 congr 2
 omega
theorem conv_i64 {src dst:TypeId} {x:Int} (hs:P.underlying src=some (.int .u64)) (hd:P.underlying dst=some (.int .i64)):Yields0 P w0 D (convert src dst (.int .u64 x)) (.int .i64 (IntKind.i64.wrap x)):=fun w _ _=>by
 have hk' : P.intKind dst = .i64:=by simp [Program.intKind,hd]
 rw [run_convert_int w src dst .u64 _ (by rw [hs];rfl) (by rw [hk'];exact hd),hk']
theorem y_shl64 {T:TypeId} {a:Nat} {q:Int} (h:a * 256 < 18446744073709551616) (hq:q=8) (ox oy:Operand):Yields0 P w0 D (do eqGuard .shl T ox oy (.int .u64 (a:Int)) (.int .u64 q);Go.binOp .shl T (.int .u64 (a:Int)) (.int .u64 q)) (.int .u64 ((a * 256:Nat):Int)):=fun w _ _=>by
 subst hq
 have e:(Op.shift .shl .u64 (a:Int) .u64 8)=pure (.int .u64 ((a * 256:Nat):Int)):=by
  have:=shift_shl_u64 (x:=(a:Int)) (yk:=.u64) (y:=8) (by omega) (by omega)
  rw [this,IntKind.wrap_u64]
  congr 2
  have e8:(2:Int) ^ (8:Int).toNat=256:=by decide
  rw [e8];omega
 show (do eqGuard .shl T ox oy _ _;Op.shift .shl .u64 (a:Int) .u64 8).run P w=_
 rw [e];rfl
theorem y_or64 {T:TypeId} {a b:Nat} (h:a * 256 < 18446744073709551616) (hb:b < 256) (ox oy:Operand):Yields0 P w0 D (do eqGuard .or T ox oy (.int .u64 ((a * 256:Nat):Int)) (.int .u64 (b:Int));Go.binOp .or T (.int .u64 ((a * 256:Nat):Int)) (.int .u64 (b:Int))) (.int .u64 ((a * 256+b:Nat):Int)):=fun w _ _=>by
 show (do eqGuard .or T ox oy _ _;pure (Value.int .u64 (bits .or .u64 ((a * 256:Nat):Int) (b:Int)))).run P w=_
 have e:a * 256 ||| b=a * 256+b:=by
  have:=or_two (k:=8) (x:=a) (y:=b) (by omega)
  rw [Nat.or_comm,Nat.mul_comm]
  rw [show 256 * a=2 ^ 8 * a by omega,this]
 rw [u64_or_nat _ b h (by omega),e];rfl
theorem toI_drop:toI (L.drop p)=(toI L).drop p:=by simp [toI]
theorem cut_rest {t e:TypeId} {bytes:Nat} {z:Value} (ht:P.underlying t=some (.slice e)) (hinfo:(P.info? e).map (fun i=>(i.zero,i.size,i.bytes))=some (some z,1,bytes)) (hp:p+k≤L.length) (hc:L.length < c) :
  Yields0 P w0 D (Instr.sliceAt t (.slice (some ⟨gb,ob+p,none⟩) (toI (L.drop p)).length (c - p)) (some (.int .i64 (k:Int))) none none) (.slice (some ⟨gb,ob+(p+k),none⟩) (toI (L.drop (p+k))).length (c - (p+k))):=fun w hw ha=>by
 have h:=book.slice_from (P:=P) (A:=some ⟨gb,ob+p,none⟩) (n:=(toI (L.drop p)).length) (c:=c - p) (k:=k) ht hinfo (by simp [toI];omega) w
 rw [← List.length_drop] at h
 have e1:cutAt (some ⟨gb,ob+p,none⟩) (c - p) k 1=some ⟨gb,ob+(p+k),none⟩:=by
  have hne:¬ c - p=k:=by omega
  rcases Nat.eq_zero_or_pos k with h0 | h0
  ·subst h0;simp [cutAt,hne,Addr.add]
  ·have h1:¬ k=0:=by omega
   simp [cutAt,hne,Addr.add,h1,Nat.add_assoc]
 have e2:(toI (L.drop p)).drop k=toI (L.drop (p+k)):=by simp [toI,List.drop_drop,Nat.add_comm]
 have e3:c - p - k=c - (p+k):=by omega
 rw [e1,e2,e3] at h
 exact h
theorem rest_at {w:World} (h:Elems (rdInt .u8) 1 w (Lt w.heap.size) (some ⟨gb,ob,none⟩) (toI L)) (hc:L.length < c):Elems (rdInt .u8) 1 w (Lt w.heap.size) (some ⟨gb,ob+p,none⟩) (toI (L.drop p)):=by
 rw [toI_drop]
 have:=h.cut p (L.length+p+1) (by simp [toI];omega)
 have e1:cutAt (some (⟨gb,ob,none⟩:Addr)) (L.length+p+1) p 1=some ⟨gb,ob+p,none⟩:=by
  have hne:¬ L.length+p+1=p:=by omega
  rcases Nat.eq_zero_or_pos p with h0 | h0
  ·subst h0;simp [cutAt,hne,Addr.add]
  ·have h1:¬ p=0:=by omega
   simp [cutAt,hne,Addr.add,h1]
 rw [e1] at this
 exact this
theorem toI_lt {w:World} {S:Nat→Prop} {A:Option Addr} (h:Elems (rdInt .u8) 1 w S A (toI L)):∀ b ∈ L,b < 256:=fun b hb=>by
 have:=elems_wf h (b:Int) (by unfold toI;exact List.mem_map_of_mem hb)
 simp [Lit.wf,IntKind.min,IntKind.max,IntKind.signed,IntKind.bits] at this
 omega
end
theorem l_next (L:List Nat) (gb ob c p g:Nat) (k:Nat)  (w:World) (hx:Elems (rdInt .u8) 1 w (Lt w.heap.size) (some ⟨gb,ob,none⟩) (toI L)) (hc:L.length < c) (hp:p+k≤L.length) (hk:k≤8):GivesD Tryz.prog w (cellsF g #[.slice (some ⟨gb,ob+p,none⟩) ((toI (L.drop p)).length) (c - p)] 99 :: []) 88 #[.pointer (some ⟨g,0,none⟩),.int .i64 (k:Int)] (Unit) (fun x=>.int .i64 (at_ L p k)) (fun x=>cellsF g #[.slice (some ⟨gb,ob+(p+k),none⟩) ((toI (L.drop (p+k))).length) (c - (p+k))] 99 :: []) :=
 have hdl:(toI (L.drop p)).length=L.length - p:=by simp [toI]
 have hd:=rest_at (p:=p) hx hc
 have hb8:∀ b ∈ L.drop p,b < 256:=fun b hb=>toI_lt hx b (List.mem_of_mem_drop hb)
 gives_d (fn:=Tryz.f88) (r:=fun (x:Unit)=>.int .i64 (at_ L p k)) (cs:=fun (x:Unit)=>#[.slice (some ⟨gb,ob+(p+k),none⟩) ((toI (L.drop (p+k))).length) (c - (p+k))]) (fs:=fun (x:Unit)=>[]) (t:=fun fr=>.l (Nat) (fun x=>[(0,undef,some (0,0)),(1,.int .i64 (k:Int),none),(5,.int .u64 ((num ((L.drop p).take x):Nat):Int),none),(7,.int .i64 (k:Int),none),(8,.int .i64 (x:Int),none)]) (fun x=>[]) [0] [] (fun x=>[fr]) (fun x=>x≤k) (fun x=>k - x) (0:Nat) (fun y1=>let k0:=(L.drop p).take y1; .s (.x (.int .u64 ((num k0 * 256:Nat):Int)) (.p (blkA (some ⟨gb,ob+p,none⟩)) (offA (some ⟨gb,ob+p,none⟩)+y1 * 1) #[.int .u8 ((toI (L.drop p)).getD y1 0)] (.x (.int .u64 (((L.drop p).getD y1 0:Nat):Int)) (.x (.int .u64 ((num k0 * 256+(L.drop p).getD y1 0:Nat):Int)) (.e (.int .i64 ((y1+1:Nat):Int)) .z))))) (.x (.slice (some ⟨gb,ob+(p+k),none⟩) ((toI (L.drop (p+k))).length) (c - (p+k))) (.x (.int .i64 (IntKind.i64.wrap ((num k0:Nat):Int))) .z)))) (X:=fun fr=>let k0:Option Addr:=some ⟨gb,ob+p,none⟩;let k3:=toI (L.drop p);let k1:Array Value:=#[.slice k0 (k3.length) (c - p)];let k6:=(toI (L.drop (p+k))).length;let k2:Array Value:=#[.slice (some ⟨gb,ob+(p+k),none⟩) k6 (c - (p+k))];let k4:=([some ⟨g,0,k1,.own 99⟩]:List (Option Blk));let k5:Option Addr:=some ⟨g,0,none⟩;let k7:Value:=.slice k0 (k3.length) (c - p);Brings w [fr] []∧((0:Nat)≤k)∧(([.pointer k5,.int .i64 (k:Int),.int .u64 0,.int .i64 (k:Int),.int .i64 0]:List Value)=[.pointer k5,.int .i64 (k:Int),.int .u64 ((num ((L.drop p).take (0:Nat)):Nat):Int),.int .i64 (k:Int),.int .i64 ((0:Nat):Int)]∧k4=[some ⟨g,0,k1,.own 99⟩]∧Turns w [fr] [fr])∧true=true∧∀ (y1:Nat),let k8:=(L.drop p).take y1;let k9:Value:=.int .u64 (((L.drop p).getD y1 0:Nat):Int);let k10:=((num k8:Nat):Int);let k11:Value:=.int .u64 ((num k8 * 256:Nat):Int);let k12:=((num k8 * 256+(L.drop p).getD y1 0:Nat):Int);let k13:=decide ((y1:Int) < (k:Int));(y1≤k)→∀ τ3:Nat→Value,(k13=true→Yields0 Tryz.prog w [fr] (do eqGuard BinOp.shl 95 (.tmp 11) (.const (.int .u64 8)) (.int .u64 k10) (.int .u64 8);Go.binOp BinOp.shl 95 (.int .u64 k10) (.int .u64 8)) k11∧Yields0 Tryz.prog w [fr] (Instr.indexAt 28 k7 (.int .i64 (y1:Int))) (.pointer (some ⟨blkA k0,offA k0+y1 * 1,none⟩))∧Reads0 w [] (blkA k0) (offA k0+y1 * 1) #[.int .u8 (k3.getD y1 0)]∧Yields0 Tryz.prog w [fr] (convert 5 95 (.int .u8 (k3.getD y1 0))) k9∧Yields0 Tryz.prog w [fr] (do eqGuard BinOp.or 95 (.tmp 12) (.tmp 20) k11 k9;Go.binOp BinOp.or 95 k11 k9) (.int .u64 k12)∧(.int .i64 (IntKind.i64.wrap ((y1:Int)+1)):Value) = .int .i64 ((y1+1:Nat):Int)∧∃ x' : Nat,(x'≤k)∧(k - x' < k - y1)∧(([.pointer k5,.int .i64 (k:Int),.int .u64 k12,.int .i64 (k:Int),.int .i64 ((y1+1:Nat):Int)]:List Value)=[.pointer k5,.int .i64 (k:Int),.int .u64 ((num ((L.drop p).take x'):Nat):Int),.int .i64 (k:Int),.int .i64 (x' : Int)]∧k4=[some ⟨g,0,k1,.own 99⟩]∧Turns w [fr] [fr])∧true=true)∧(k13=false→Yields0 Tryz.prog w [fr] (Instr.sliceAt 28 k7 (some (.int .i64 (k:Int))) none none) (.slice (some ⟨gb,ob+(p+k),none⟩) k6 (c - (p+k)))∧Yields0 Tryz.prog w [fr] (convert 95 2 (.int .u64 k10)) (.int .i64 (IntKind.i64.wrap k10))∧∃ x:Unit,(.int .i64 (IntKind.i64.wrap k10):Value) = .int .i64 (at_ L p k)∧(some ⟨g,0,k2,.own 99⟩:Option Blk)=some ⟨g,0,k2,.own 99⟩∧Turns w [fr] ([]++[fr]))) Tryz.func88 rfl (fun fr=>by kernel_rfl)
 (fun fr=>⟨(fun w _ _=>news_nil),(Nat.zero_le _),⟨rfl,rfl,(turns_sub (.cons_cons _ (List.nil_sublist _)))⟩,rfl,fun y1 I2 τ3=>⟨fun h4=>have h4:(y1:Int) < (k:Int):=(by simpa using h4)
⟨(y_shl64 (num_256 (by omega) hb8) rfl _ _),⟨(low_index Tryz.underlying28 info_u8 byte_cells (Nat.le_refl _) hd rfl (by omega)),(low_reads byte_cells (Nat.le_refl _) hd (at_getD (by omega))),⟨(conv_up Tryz.underlying5 Tryz.underlying95 (by rw [List.length_drop];omega) hb8),⟨(y_or64 (num_256 (by omega) hb8) (getD_lt hb8) _ _),⟨wrap_is (by omega) (by omega) (by omega),⟨((y1+1):Nat),(by omega),(by omega),⟨(by have e:=num_next (l:=L.drop p) (i:=y1) (by rw [List.length_drop];omega);simp only [e]<;>rfl),rfl,(turns_sub (.cons_cons _ (List.nil_sublist _)))⟩,rfl⟩⟩⟩⟩⟩⟩,
 fun h4=>have h4:¬ (y1:Int) < (k:Int):=(by simpa using h4)
⟨(cut_rest Tryz.underlying28 info_u8 hp hc),⟨(conv_i64 Tryz.underlying95 Tryz.underlying2),⟨(),(by have e:y1=k:=(by omega);rw [e]<;>rfl),rfl,(turns_idx [0] (by decide) rfl)⟩⟩⟩⟩⟩)
theorem l_small (L:List Nat) (gb ob c p g:Nat)  (w:World) (hx:Elems (rdInt .u8) 1 w (Lt w.heap.size) (some ⟨gb,ob,none⟩) (toI L)) (hc:L.length < c) (hp:p+1≤L.length):GivesD Tryz.prog w (cellsF g #[.slice (some ⟨gb,ob+p,none⟩) ((toI (L.drop p)).length) (c - p)] 99 :: []) 63 #[.pointer (some ⟨g,0,none⟩)] (Unit) (fun x=>.int .i64 (at_ L p 1)) (fun x=>cellsF g #[.slice (some ⟨gb,ob+(p+1),none⟩) ((toI (L.drop (p+1))).length) (c - (p+1))] 99 :: []) :=
 gives_d (fn:=Tryz.f63) (r:=fun (x:Unit)=>.int .i64 (at_ L p 1)) (cs:=fun (x:Unit)=>#[.slice (some ⟨gb,ob+(p+1),none⟩) ((toI (L.drop (p+1))).length) (c - (p+1))]) (fs:=fun (x:Unit)=>[]) (t:=fun fr=>.cD (some 0) (Unit) (fun x=>.int .i64 (at_ L p 1)) (fun x=>#[.slice (some ⟨gb,ob+(p+1),none⟩) ((toI (L.drop (p+1))).length) (c - (p+1))]) (fun x=>[fr]) (fun x1=>.z)) (X:=fun fr=>let k0:Array Value:=#[.slice (some ⟨gb,ob+(p+1),none⟩) ((toI (L.drop (p+1))).length) (c - (p+1))];GivesD Tryz.prog w (cellsF g #[.slice (some ⟨gb,ob+p,none⟩) ((toI (L.drop p)).length) (c - p)] 99 :: [fr]) 88 #[.pointer (some ⟨g,0,none⟩),.int .i64 1] (Unit) (fun x=>.int .i64 (at_ L p 1)) (fun x=>cellsF g k0 99 :: [fr])∧∀ x1:Unit,∃ x:Unit,(.int .i64 (at_ L p 1):Value) = .int .i64 (at_ L p 1)∧(some ⟨g,0,k0,.own 99⟩:Option Blk)=some ⟨g,0,k0,.own 99⟩∧Turns w [fr] ([]++[fr])) Tryz.func63 rfl (fun fr=>by kernel_rfl)
 (fun fr=>⟨(gives_turn (turns_idx [0,1] (by decide) rfl) (l_next L gb ob c p g 1 w hx hc (by omega) (by omega))),fun x1=>⟨(),rfl,rfl,(turns_idx [0] (by decide) rfl)⟩⟩)
theorem l_great (L:List Nat) (gb ob c p g:Nat)  (w:World) (hx:Elems (rdInt .u8) 1 w (Lt w.heap.size) (some ⟨gb,ob,none⟩) (toI L)) (hc:L.length < c) (hp:p+8≤L.length):GivesD Tryz.prog w (cellsF g #[.slice (some ⟨gb,ob+p,none⟩) ((toI (L.drop p)).length) (c - p)] 99 :: []) 64 #[.pointer (some ⟨g,0,none⟩)] (Unit) (fun x=>.int .i64 (at_ L p 8)) (fun x=>cellsF g #[.slice (some ⟨gb,ob+(p+8),none⟩) ((toI (L.drop (p+8))).length) (c - (p+8))] 99 :: []) :=
 gives_d (fn:=Tryz.f64) (r:=fun (x:Unit)=>.int .i64 (at_ L p 8)) (cs:=fun (x:Unit)=>#[.slice (some ⟨gb,ob+(p+8),none⟩) ((toI (L.drop (p+8))).length) (c - (p+8))]) (fs:=fun (x:Unit)=>[]) (t:=fun fr=>.cD (some 0) (Unit) (fun x=>.int .i64 (at_ L p 8)) (fun x=>#[.slice (some ⟨gb,ob+(p+8),none⟩) ((toI (L.drop (p+8))).length) (c - (p+8))]) (fun x=>[fr]) (fun x1=>.z)) (X:=fun fr=>let k0:Array Value:=#[.slice (some ⟨gb,ob+(p+8),none⟩) ((toI (L.drop (p+8))).length) (c - (p+8))];GivesD Tryz.prog w (cellsF g #[.slice (some ⟨gb,ob+p,none⟩) ((toI (L.drop p)).length) (c - p)] 99 :: [fr]) 88 #[.pointer (some ⟨g,0,none⟩),.int .i64 8] (Unit) (fun x=>.int .i64 (at_ L p 8)) (fun x=>cellsF g k0 99 :: [fr])∧∀ x1:Unit,∃ x:Unit,(.int .i64 (at_ L p 8):Value) = .int .i64 (at_ L p 8)∧(some ⟨g,0,k0,.own 99⟩:Option Blk)=some ⟨g,0,k0,.own 99⟩∧Turns w [fr] ([]++[fr])) Tryz.func64 rfl (fun fr=>by kernel_rfl)
 (fun fr=>⟨(gives_turn (turns_idx [0,1] (by decide) rfl) (l_next L gb ob c p g 8 w hx hc (by omega) (by omega))),fun x1=>⟨(),rfl,rfl,(turns_idx [0] (by decide) rfl)⟩⟩)
end Go.Proofs.YtalhdalinpdanabGreat.row
