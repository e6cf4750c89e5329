/-
  SlotA
-/
import Derived.Test.YtlipgnenbdchmaaMsg41
import Derived.Test.YtlipgnenbdchmaaMsg11
import Derived.Test.YtlipgnenbdchmaaMsg42
set_option linter.unusedVariables false
set_option linter.unusedSimpArgs false
namespace Go.Proofs.Ytlipgnenbdchmaa.slot
open Go.RowKit Go.Proofs.Ytlipgnenbdchmaa Go.Proofs.Ytlipgnenbdchmaa.disk
open Go.Proofs.Ytlipgnenbdchmaa.wal (Dv dc InD RetD RetB keeps_d rdRaw RawF rfc rz fz keeps_raw leaf_raw raw_cells info_file)
open Go.Proofs.Ytlipgnenbdchmaa.dsk (low_alike RB keeps_bys)
open Go.Proofs.Ytlipgnenbdchmaa.frame (be be_len be_lt u le4 num num_lt seg seg_lt seg_len sg)
set_option maxRecDepth 20000
theorem right_yes {s:Sl} (h1:¬ s.g < 1) (h2:¬ 1000000000 < s.g) (h3:¬ s.l < 0) (h4:¬ 1000000000 < s.l):right s=true:=right_iff.2 (by omega)
theorem right_no {s:Sl} (h:¬ (1≤s.g∧s.g≤1000000000∧0≤s.l∧s.l≤1000000000)):right s=false:=by
 rw [← Bool.not_eq_true,right_iff];exact h
abbrev nEven:ByteArray:=⟨#[115,108,111,116,46,48]⟩
abbrev nOdd:ByteArray:=⟨#[115,108,111,116,46,49]⟩
def nameV (g:Int):ByteArray:=if Int.tmod g 2=0 then nEven else nOdd
theorem name_even {g:Int} (h:Int.tmod g 2=0):nameV g=nEven:=if_pos h
theorem name_odd {g:Int} (h:¬ Int.tmod g 2=0):nameV g=nOdd:=if_neg h
theorem rem_two {P:Program} {w0:World} {D:List Fact} {T:TypeId} {g:Int} (ox oy:Operand):Yields0 P w0 D (do eqGuard .rem T ox oy (.int .i64 g) (.int .i64 2);Go.binOp .rem T (.int .i64 g) (.int .i64 2)) (.int .i64 (Int.tmod g 2)):=fun w _ _=>rfl
theorem num_all {l:List Nat} {y:Nat} (h:l.length≤y):num (l.take y)=num l:=by rw [List.take_of_length_le h]
theorem v_right (s:Sl)  (w:World):Calls Try.prog 10 #[.agg (sc s)] w fun e w'=>e = .returned (.bool (right s))∧Below w.heap.size w w' :=
 calls_by (fn:=Try.f10) (r:=.bool (right s)) (t:=.s (.k (.s (.k (.s (.k (.s .z .z)) (.k .z))) (.k (.k .z)))) (.k (.k (.k .z)))) (X :=
 let k0:=(.bool false:Value) = .bool (right s);let k1:=decide (s.g≤1000000000);let k2:=decide (s.l≤1000000000); ∀ g0:Nat,((decide (s.g ≥ 1))=true→(k1=true→((decide (s.l ≥ 0))=true→(k2=true→((.bool true:Value) = .bool (right s)))∧(k2=false→k0))∧((decide (s.l ≥ 0))=false→k0))∧(k1=false→k0))∧((decide (s.g ≥ 1))=false→k0)) Try.func10 (by kernel_rfl)
 (fun g0=>⟨fun h1=>have h1:¬ s.g < 1:=(by simpa using h1)
⟨fun h2=>have h2:¬ 1000000000 < s.g:=(by simpa using h2)
⟨fun h3=>have h3:¬ s.l < 0:=(by simpa using h3)
⟨fun h4=>have h4:¬ 1000000000 < s.l:=(by simpa using h4)
(by rw [right_yes h1 h2 h3 h4]),
 fun h4=>have h4:1000000000 < s.l:=(by simpa using h4)
(by rw [right_no (by omega)])⟩,
 fun h3=>have h3:s.l < 0:=(by simpa using h3)
(by rw [right_no (by omega)])⟩,
 fun h2=>have h2:1000000000 < s.g:=(by simpa using h2)
(by rw [right_no (by omega)])⟩,
 fun h1=>have h1:s.g < 1:=(by simpa using h1)
(by rw [right_no (by omega)])⟩)
theorem v_name (g:Int)  (w:World):Calls Try.prog 14 #[.int .i64 g] w fun e w'=>e = .returned (.string (nameV g))∧Below w.heap.size w w' :=
 calls_by (fn:=Try.f14) (r:=.string (nameV g)) (t:=.x (.int .i64 (Int.tmod g 2)) (.s .z .z)) (X :=
 let k0:=decide ((Int.tmod g 2)=0);Yields0 Try.prog w [] (do eqGuard BinOp.rem 2 (.tmp 3) (.const (.int .i64 2)) (.int .i64 g) (.int .i64 2);Go.binOp BinOp.rem 2 (.int .i64 g) (.int .i64 2)) (.int .i64 (Int.tmod g 2))∧(k0=true→((.string (⟨#[115,108,111,116,46,48]⟩):Value) = .string (nameV g)))∧(k0=false→((.string (⟨#[115,108,111,116,46,49]⟩):Value) = .string (nameV g)))) Try.func14 (by kernel_rfl)
 (⟨(rem_two _ _),⟨fun h1=>have h1:(Int.tmod g 2)=0:=(by simpa using h1)
(by rw [name_even h1]),
 fun h1=>have h1:¬ (Int.tmod g 2)=0:=(by simpa using h1)
(by rw [name_odd h1])⟩⟩)
theorem v_number (b:Option Addr × Nat) (l:List Nat)  (w:World) (hx:Elems (rdInt .u8) 1 w (Lt w.heap.size) b.1 (toI l)) (hb:∀ b ∈ l,b < 256) (hl8:l.length≤8):Calls Try.prog 47 #[.slice b.1 (toI l).length b.2] w fun e w'=>e = .returned (.int .i64 (sg (num l)))∧Below w.heap.size w w' :=
 have hl:=toI_len l
 calls_by (fn:=Try.f47) (r:=.int .i64 (sg (num l))) (t:=.l (Nat) (fun x=>[(3,.int .i64 (sg (num (l.take x))),none),(6,.slice b.1 ((toI l).length) b.2,none),(7,.int .i64 ((toI l).length:Int),none),(8,.int .i64 (x:Int),none)]) (fun x=>[]) [] [] (fun x=>[]) (fun x=>x≤(toI l).length) (fun x=>(toI l).length - x) (0:Nat) (fun y1=>.s (.p (blkA b.1) (offA b.1+y1 * 1) #[.int .u8 ((toI l).getD y1 0)] (.x (.int .i64 (sg (num (l.take y1) * 256))) (.x (.int .i64 ((l.getD y1 0:Nat):Int)) (.x (.int .i64 (sg (num (l.take y1) * 256+l.getD y1 0))) (.e (.int .i64 ((y1+1:Nat):Int)) .z))))) .z)) (X :=
 let k0:=((toI l).length:Int);let k1:=(toI l).length;let k2:=([]:List (Option Blk));Brings w [] []∧((0:Nat)≤(toI l).length)∧(([.int .i64 0,.slice b.1 k1 b.2,.int .i64 k0,.int .i64 0]:List Value)=[.int .i64 (sg (num (l.take (0:Nat)))),.slice b.1 k1 b.2,.int .i64 k0,.int .i64 ((0:Nat):Int)]∧k2=[]∧Turns w [] [])∧true=true∧∀ (y1:Nat),let k3:Value:=.int .i64 (sg (num (l.take y1) * 256));let k4:Value:=.int .i64 ((l.getD y1 0:Nat):Int);let k5:=sg (num (l.take y1));let k6:=sg (num (l.take y1) * 256+l.getD y1 0);let k7:=decide ((y1:Int) < k0);(y1≤(toI l).length)→∀ τ3:Nat→Value,(k7=true→Yields0 Try.prog w [] (Instr.indexAt 27 (.slice b.1 k1 b.2) (.int .i64 (y1:Int))) (.pointer (some ⟨blkA b.1,offA b.1+y1 * 1,none⟩))∧Reads0 w [] (blkA b.1) (offA b.1+y1 * 1) #[.int .u8 ((toI l).getD y1 0)]∧Yields0 Try.prog w [] (do eqGuard BinOp.shl 2 (.tmp 12) (.const (.int .u64 8)) (.int .i64 k5) (.int .u64 8);Go.binOp BinOp.shl 2 (.int .i64 k5) (.int .u64 8)) k3∧Yields0 Try.prog w [] (convert 5 2 (.int .u8 ((toI l).getD y1 0))) k4∧Yields0 Try.prog w [] (do eqGuard BinOp.or 2 (.tmp 13) (.tmp 15) k3 k4;Go.binOp BinOp.or 2 k3 k4) (.int .i64 k6)∧(.int .i64 (IntKind.i64.wrap ((y1:Int)+1)):Value) = .int .i64 ((y1+1:Nat):Int)∧∃ x' : Nat,(x'≤(toI l).length)∧((toI l).length - x' < (toI l).length - y1)∧(([.int .i64 k6,.slice b.1 k1 b.2,.int .i64 k0,.int .i64 ((y1+1:Nat):Int)]:List Value)=[.int .i64 (sg (num (l.take x'))),.slice b.1 k1 b.2,.int .i64 k0,.int .i64 (x' : Int)]∧k2=[]∧Turns w [] [])∧true=true)∧(k7=false→((.int .i64 k5:Value) = .int .i64 (sg (num l))))) Try.func47 (by kernel_rfl)
 (⟨(fun w _ _=>news_nil),(Nat.zero_le _),⟨rfl,rfl,(turns_sub (List.nil_sublist _))⟩,rfl,fun y1 I2 τ3=>⟨fun h4=>have h4:(y1:Int) < ((toI l).length:Int):=(by simpa using h4)
⟨(low_index Try.underlying27 info_u8 byte_cells (Nat.le_refl _) hx rfl (by omega)),(low_reads byte_cells (Nat.le_refl _) hx (at_getD (by omega))),⟨(shl_sg (num_pow8 hb (by rw [toI_len] at *;omega)) _ _),⟨(by rw [toI_at];exact conv_64 Try.underlying5 Try.underlying2 (getD_lt hb _)),⟨(orr_sg (num_pow8 hb (by rw [toI_len] at *;omega)) (getD_lt hb _) _ _),⟨wrap_is (by omega) (by omega) (by omega),⟨((y1+1):Nat),(by omega),(by omega),⟨(by have e:=num_snoc8 (l:=l) (j:=y1) (by rw [toI_len] at *;omega);simp only [e]<;>rfl),rfl,(turns_sub (List.nil_sublist _))⟩,rfl⟩⟩⟩⟩⟩⟩,
 fun h4=>have h4:¬ (y1:Int) < ((toI l).length:Int):=(by simpa using h4)
(by rw [num_all (by rw [toI_len] at *;omega)])⟩⟩)
theorem g_number {w0:World} {D:List Fact} {A:Option Addr} {c:Nat} {l:List Nat} (hx:∀ w,Below w0.heap.size w0 w→All D w→Elems (rdInt .u8) 1 w (Lt w.heap.size) A (toI l)) (hb:∀ b ∈ l,b < 256) (hl:l.length≤8):Gives Try.prog w0 D 47 #[.slice A (toI l).length c] (.int .i64 (sg (num l))):=fun w hw ha=>v_number (A,c) l w (hx w hw ha) hb hl
theorem seg_8 {L:List Nat} (h:L.length=20) (a:Nat):(seg L a 8).length≤8:=by unfold seg;rw [List.length_take];omega
theorem seg_toI (L:List Nat) (a k:Nat):toI (seg L a k)=((toI L).drop a).take k:=by simp [toI,seg,List.map_take,List.map_drop]
theorem elems_take {α:Type} {R:Rd α} {size:Nat} {w:World} {S:Nat→Prop} {A:Option Addr} {xs:List α} (h:Elems R size w S A xs) (k:Nat):Elems R size w S A (xs.take k):=fun h0=>by
 obtain ⟨b,off,e,hb,hc⟩:=h (by rw [List.length_take] at h0;omega)
 refine ⟨b,off,e,hb,fun j x hj=>hc j x ?_⟩
 have hk:j < k:=by have:=(List.getElem?_eq_some_iff.1 hj).1;rw [List.length_take] at this;omega
 rwa [List.getElem?_take_of_lt hk] at hj
theorem seg_elems {w0:World} {D:List Fact} {A:Option Addr} {c:Nat} {L:List Nat} (hx:Elems (rdInt .u8) 1 w0 (Lt w0.heap.size) A (toI L)) (hc:(toI L).length≤c) (a:Nat) (ha:a≤20):∀ w,Below w0.heap.size w0 w→All D w→Elems (rdInt .u8) 1 w (Lt w.heap.size) (cutAt A c a 1) (toI (seg L a 8)):=fun w hw _=>by
 have h1:Elems (rdInt .u8) 1 w (Lt w.heap.size) A (toI L):=hx.keep (keeps_int _) (below_alike hw) (fun k h=>Nat.lt_of_lt_of_le h hw.size)
 rw [seg_toI]
 exact elems_take (Elems.cut h1 a c hc) 8
theorem cut_seg {P:Program} {w0:World} {D:List Fact} {t e:TypeId} (ht:P.underlying t=some (.slice e)) {bytes:Nat} {z:Value} (hinfo:(P.info? e).map (fun i=>(i.zero,i.size,i.bytes))=some (some z,1,bytes)) {A:Option Addr} {n c:Nat} {L:List Nat} (lo hi:Nat) (e1:hi=lo+8) (h1:hi≤L.length) (h2:hi≤c) :
  Yields0 P w0 D (Instr.sliceAt t (.slice A n c) (some (.int .i64 (lo:Int))) (some (.int .i64 (hi:Int))) none) (.slice (cutAt A c lo 1) (toI (seg L lo 8)).length (c - lo)):=fun w _ _=>by
 have e2:(toI (seg L lo 8)).length=hi - lo:=by rw [toI_len];unfold seg;rw [List.length_take,List.length_drop];omega
 rw [e2]
 exact cut_lh ht hinfo lo hi (by omega) h2 w
theorem v_read (b:Option Addr × Nat) (L:List Nat)  (w:World) (hx:Elems (rdInt .u8) 1 w (Lt w.heap.size) b.1 (toI L)) (hb:∀ b ∈ L,b < 256) (hc:(toI L).length≤b.2) (hl:L.length=20):Calls Try.prog 25 #[.slice b.1 (toI L).length b.2] w fun e w'=>e = .returned (.agg (sc (rd L)))∧Below w.heap.size w w' :=
 have q3:=toI_len L
 calls_by (fn:=Try.f25) (r:=.agg (sc (rd L))) (t:=.o [0] (.x (.slice (cutAt b.1 b.2 0 1) ((toI (seg L 0 8)).length) (b.2 - 0)) (.x (.slice (cutAt b.1 b.2 8 1) ((toI (seg L 8 8)).length) (b.2 - 8)) (.c (.int .i64 (sg (num (seg L 0 8)))) (.c (.int .i64 (sg (num (seg L 8 8)))) .z))))) (X :=
 let k0:=(toI (seg L 0 8)).length;let k1:=(toI (seg L 8 8)).length;let k2:Value:=.slice b.1 ((toI L).length) b.2; ∀ g0:Nat,Yields0 Try.prog w [] (Instr.sliceAt 27 k2 (some (.int .i64 0)) (some (.int .i64 8)) none) (.slice (cutAt b.1 b.2 0 1) k0 (b.2 - 0))∧Yields0 Try.prog w [] (Instr.sliceAt 27 k2 (some (.int .i64 8)) (some (.int .i64 16)) none) (.slice (cutAt b.1 b.2 8 1) k1 (b.2 - 8))∧Gives Try.prog w [] 47 #[.slice (cutAt b.1 b.2 0 1) k0 (b.2 - 0)] (.int .i64 (sg (num (seg L 0 8))))∧Gives Try.prog w [] 47 #[.slice (cutAt b.1 b.2 8 1) k1 (b.2 - 8)] (.int .i64 (sg (num (seg L 8 8))))∧((.agg #[.int .i64 (sg (num (seg L 0 8))),.int .i64 (sg (num (seg L 8 8)))]:Value) = .agg (sc (rd L)))) Try.func25 (by kernel_rfl)
 (fun g0=>⟨(cut_seg Try.underlying27 info_u8 0 8 rfl (by omega) (by omega)),⟨(cut_seg Try.underlying27 info_u8 8 16 rfl (by omega) (by omega)),⟨(g_number (seg_elems hx hc 0 (by omega)) (seg_lt hb _ _) (seg_8 hl _)),⟨(g_number (seg_elems hx hc 8 (by omega)) (seg_lt hb _ _) (seg_8 hl _)),rfl⟩⟩⟩⟩)
theorem stepU_cast {P:Program} {w0:World} {D:List Fact} {m:Sem Unit} {X:Nat→Prop} {g:Nat} {l l' : List Nat} {e:TypeId} (h:l=l') (hs:StepU P w0 D m X Unit (fun _=>undef) (fun _=>[cellsF g (arrB l) e])):StepU P w0 D m X Unit (fun _=>undef) (fun _=>[cellsF g (arrB l') e]):=h▸hs
theorem g_put0 (g off c:Nat) (l:List Nat) (n:Int) (w:World) (hl:off+8≤l.length):GivesD Try.prog w [cellsF g (arrB l) 55] 44 #[.slice (some ⟨g,off,none⟩) 8 c,.int .i64 n] Unit (fun _=>.tuple #[]) (fun _=>[cellsF g (arrB (putAt l off n)) 55]) :=
 gives_r (fn:=Try.f44) (r:=fun (_:Unit)=>.tuple #[]) (fs:=fun (_:Unit)=>[cellsF g (arrB (putAt l off n)) 55]) (t:=fun fr=>.l (Nat) (fun x=>[(0,.slice (some ⟨g,off,none⟩) 8 c,none),(1,.int .i64 n,none),(6,.int .i64 8,none),(7,.int .i64 (x:Int),none)]) (fun x=>[]) [] [] (fun x=>[cellsF g (arrB (putN l off n x)) 55,fr]) (fun x=>x≤8) (fun x=>8 - x) (0:Nat) (fun y1=>.s (.e (.int .i64 7) (.e (.int .i64 ((7 - y1:Nat):Int)) (.e (.int .i64 ((8 * y1:Nat):Int)) (.x (.int .i64 (n / 2 ^ (8 * y1))) (.x (.int .u8 (((be 8 (u n)).getD (7 - y1) 0:Nat):Int)) (.x (.pointer (some ⟨g,(off+(7 - y1:Nat)),none⟩)) (.w (Unit) (some 0) (fun x=>undef) (fun x=>[cellsF g (arrB (putN l off n (y1+1))) 55]) (fun x5=>.e (.int .i64 ((y1+1:Nat):Int)) .z)))))))) .z)) (X:=fun fr=>let k0:Option Addr:=some ⟨g,off,none⟩;let k1:=([]:List (Option Blk));Brings w [cellsF g (arrB l) 55,fr] []∧((0:Nat)≤8)∧(([.slice k0 8 c,.int .i64 n,.int .i64 8,.int .i64 0]:List Value)=[.slice k0 8 c,.int .i64 n,.int .i64 8,.int .i64 ((0:Nat):Int)]∧k1=[]∧Turns w [cellsF g (arrB l) 55,fr] [cellsF g (arrB (putN l off n (0:Nat))) 55,fr])∧true=true∧∀ (y1:Nat),let k9:=arrB (putN l off n y1);let k2:List Fact:=[cellsF g k9 55,fr];let k3:Value:=.int .u8 (((be 8 (u n)).getD (7 - y1) 0:Nat):Int);let k7:=(7 - y1:Nat);let k4:Value:=.pointer (some ⟨g,(off+k7),none⟩);let k5:=((8 * y1:Nat):Int);let k6:=arrB (putN l off n (y1+1));let k8:=decide ((y1:Int) < 8);(y1≤8)→∀ τ3:Nat→Value,(k8=true→(.int .i64 (IntKind.i64.wrap (8 - 1)):Value) = .int .i64 7∧(.int .i64 (IntKind.i64.wrap (7 - (y1:Int))):Value) = .int .i64 (k7:Int)∧(.int .i64 (IntKind.i64.wrap (8 * (y1:Int))):Value) = .int .i64 k5∧Yields0 Try.prog w k2 (do eqGuard BinOp.shr 2 (.tmp 16) (.tmp 18) (.int .i64 n) (.int .i64 k5);Go.binOp BinOp.shr 2 (.int .i64 n) (.int .i64 k5)) (.int .i64 (n / 2 ^ (8 * y1)))∧Yields0 Try.prog w k2 (convert 2 5 (.int .i64 (n / 2 ^ (8 * y1)))) k3∧Yields0 Try.prog w k2 (Instr.indexAt 27 (.slice k0 8 c) (.int .i64 (k7:Int))) k4∧StepU Try.prog w k2 (Instr.storeAt 5 k4 k3) ((cellsF g k9 55).S) (Unit) (fun x=>undef) (fun x=>[cellsF g k6 55])∧∀ x5:Unit,(.int .i64 (IntKind.i64.wrap ((y1:Int)+1)):Value) = .int .i64 ((y1+1:Nat):Int)∧∃ x' : Nat,(x'≤8)∧(8 - x' < 8 - y1)∧(([.slice k0 8 c,.int .i64 n,.int .i64 8,.int .i64 ((y1+1:Nat):Int)]:List Value)=[.slice k0 8 c,.int .i64 n,.int .i64 8,.int .i64 (x' : Int)]∧k1=[]∧Turns w [cellsF g k6 55,fr] [cellsF g (arrB (putN l off n x')) 55,fr])∧true=true)∧(k8=false→∃ x:Unit,(.tuple #[]:Value) = .tuple #[]∧Turns w k2 [cellsF g (arrB (putAt l off n)) 55,fr])) Try.func44 (fun fr=>by kernel_rfl)
 (fun fr=>⟨(fun w _ _=>news_nil),(Nat.zero_le _),⟨rfl,rfl,(turns_cast (by rw [putN_zero hl]) (turns_sub (List.Sublist.refl _)))⟩,rfl,fun y1 I2 τ3=>⟨fun h4=>have h4:(y1:Int) < 8:=(by simpa using h4)
⟨rfl,⟨wrap_is (by omega) (by omega) (by omega),⟨wrap_is (by omega) (by omega) (by omega),⟨(shr_i64 (by omega) _ _),⟨(conv_b Try.underlying2 Try.underlying5 (by omega)),⟨(box_idx Try.underlying27 info_u8 (by omega)),⟨(stepU_cast (putN_step hl (by omega)) (arr_store (v:=((be 8 (u n)).getD (7 - y1) 0)) (i:=0) rfl (by kernel_rfl) (by rw [putN_len hl (by omega)];omega))),fun x5=>⟨wrap_is (by omega) (by omega) (by omega),⟨((y1+1):Nat),(by omega),(by omega),⟨rfl,rfl,(turns_sub (.cons_cons _ (.cons_cons _ (List.nil_sublist _))))⟩,rfl⟩⟩⟩⟩⟩⟩⟩⟩⟩,
 fun h4=>have h4:¬ (y1:Int) < 8:=(by simpa using h4)
⟨(),rfl,turns_cast (by rw [show y1=8 by omega,putN_full]) (turns_sub (List.Sublist.refl _))⟩⟩⟩)
theorem g_put {w0:World} {g off c:Nat} {l:List Nat} {n:Int} (hl:off+8≤l.length):GivesD Try.prog w0 [cellsF g (arrB l) 55] 44 #[.slice (some ⟨g,off,none⟩) 8 c,.int .i64 n] Unit (fun _=>.tuple #[]) (fun _=>[cellsF g (arrB (putAt l off n)) 55]):=g_put0 g off c l n w0 hl
theorem g_crc {w0:World} {D:List Fact} {g i c:Nat} {s:Sl} (hi:D[i]?=some (cellsF g (arrB (putAt (putAt z20 0 s.g) 8 s.l)) 55)):Gives Try.prog w0 D 45 #[.slice (some ⟨g,0,none⟩) 16 c] (.int .u32 (((crc.more 0 (body s)):Nat):Int)):=fun w hw ha=>by
 have h:=arr_bys (block_at hi w ha) (put_lt s) (p:=0) (k:=16) (by rw [put2_len];omega)
 rw [put_take] at h
 refine (crc.sum_is (some ⟨g,0,none⟩) 16 c w.heap.size (body s) _ w h (body_len s) (by decide) rfl).mono ?_
 rintro e w' ⟨rfl,rfl⟩
 exact ⟨rfl,Below.refl _ _⟩
theorem v_told (s:Sl)  (w:World):Calls Try.prog 23 #[.agg (sc s)] w fun e w'=>e = .returned (.agg (arr20 (enc s)))∧Below w.heap.size w w' :=
 calls_by (fn:=Try.f23) (r:=.agg (arr20 (enc s))) (t:=let k0:=le4 (crc.more 0 (body s));let k3:=putAt (putAt z20 0 s.g) 8 s.l;let k5:=k3.set 16 (k0.getD 0 0);let k1:=k5.set 17 (k0.getD 1 0);let k2:=(((crc.more 0 (body s)):Nat):Int);let k4:=k1.set 18 (k0.getD 2 0);let k6:=k4.set 19 (k0.getD 3 0); .rel 2 (fun g2=>.ow [] [] (.x (.slice (some ⟨g2,0,none⟩) 8 20) (.cD none (Unit) (fun x=>.tuple #[]) (fun x=>#[]) (fun x=>[cellsF g2 (arrB (putAt z20 0 s.g)) 55]) (fun x1=>.ow [] [] (.x (.slice (some ⟨g2,8,none⟩) 8 12) (.cD none (Unit) (fun x=>.tuple #[]) (fun x=>#[]) (fun x=>[cellsF g2 (arrB k3) 55]) (fun x2=>.x (.slice (some ⟨g2,0,none⟩) 16 20) (.c (.int .u32 k2) (.x (.slice (some ⟨g2,16,none⟩) 4 4) (.u 5 (.k (.e (.int .i64 16) (.e (.int .i64 0) (.x (.int .u32 (k2 / 2 ^ 0)) (.x (.int .u8 ((k0.getD 0 0:Nat):Int)) (.x (.pointer (some ⟨g2,16,none⟩)) (.w (Unit) (some 0) (fun x=>undef) (fun x=>[cellsF g2 (arrB k5) 55]) (fun x3=>.e (.int .i64 1) (.k (.e (.int .i64 17) (.e (.int .i64 8) (.x (.int .u32 (k2 / 2 ^ 8)) (.x (.int .u8 ((k0.getD 1 0:Nat):Int)) (.x (.pointer (some ⟨g2,17,none⟩)) (.w (Unit) (some 0) (fun x=>undef) (fun x=>[cellsF g2 (arrB k1) 55]) (fun x4=>.e (.int .i64 2) (.k (.e (.int .i64 18) (.e (.int .i64 16) (.x (.int .u32 (k2 / 2 ^ 16)) (.x (.int .u8 ((k0.getD 2 0:Nat):Int)) (.x (.pointer (some ⟨g2,18,none⟩)) (.w (Unit) (some 0) (fun x=>undef) (fun x=>[cellsF g2 (arrB k4) 55]) (fun x5=>.e (.int .i64 3) (.k (.e (.int .i64 19) (.e (.int .i64 24) (.x (.int .u32 (k2 / 2 ^ 24)) (.x (.int .u8 ((k0.getD 3 0:Nat):Int)) (.x (.pointer (some ⟨g2,19,none⟩)) (.w (Unit) (some 0) (fun x=>undef) (fun x=>[cellsF g2 (arrB k6) 55]) (fun x6=>.e (.int .i64 4) (.k (.x (.agg (arr20 k6)) .z))))))))))))))))))))))))))))))))))))))))))))) (X :=
 let k2:=putAt (putAt z20 0 s.g) 8 s.l;let k1:=crc.more 0 (body s);let k14:=k2.set 16 ((le4 k1).getD 0 0);let k0:=k14.set 17 ((le4 k1).getD 1 0);let k3:=k0.set 18 ((le4 k1).getD 2 0);let k4:=((k1:Nat):Int);let k5:=arrB k14;let k6:Value:=.int .u32 k4;let k7:=k3.set 19 ((le4 k1).getD 3 0);let k8:=arrB (putAt z20 0 s.g);let k9:Value:=.int .i64 16;let k10:Value:=.int .u8 (((le4 k1).getD 0 0:Nat):Int);let k11:Value:=.int .u8 (((le4 k1).getD 1 0:Nat):Int);let k12:Value:=.int .u8 (((le4 k1).getD 2 0:Nat):Int);let k13:Value:=.int .u8 (((le4 k1).getD 3 0:Nat):Int); ∀ g0:Nat,∀ g1:Nat,∀ g2:Nat,let k19:Option Addr:=some ⟨g2,0,none⟩;let k15:Value:=.pointer k19;let k16:List Fact:=[cellsF g2 (arrB k2) 55];let k17:List Fact:=[cellsF g2 (arrB k0) 55];let k18:List Fact:=[cellsF g2 (arrB k3) 55];let k20:List Fact:=[cellsF g2 k5 55];let k21:List Fact:=[cellsF g2 k8 55];let k22:Option Addr:=some ⟨g2,16,none⟩;let k23:Value:=.pointer (some ⟨g2,17,none⟩);let k24:Value:=.pointer (some ⟨g2,18,none⟩);let k25:Value:=.pointer (some ⟨g2,19,none⟩);Imp w [cellsF g2 (arrB z20) 55] []∧Yields0 Try.prog w [] (Instr.sliceAt 55 k15 (some (.int .i64 0)) (some (.int .i64 8)) none) (.slice k19 8 20)∧(∀ x:Unit,Imp w k21 [])∧GivesD Try.prog w [cellsF g2 (arrB z20) 55] 44 #[.slice k19 8 20,.int .i64 s.g] (Unit) (fun x=>.tuple #[]) (fun x=>k21)∧∀ x1:Unit,Imp w k21 []∧Yields0 Try.prog w [] (Instr.sliceAt 55 k15 (some (.int .i64 8)) (some k9) none) (.slice (some ⟨g2,8,none⟩) 8 12)∧(∀ x:Unit,Imp w k16 [])∧GivesD Try.prog w k21 44 #[.slice (some ⟨g2,8,none⟩) 8 12,.int .i64 s.l] (Unit) (fun x=>.tuple #[]) (fun x=>k16)∧∀ x2:Unit,Yields0 Try.prog w k16 (Instr.sliceAt 55 k15 none (some k9) none) (.slice k19 16 20)∧Gives Try.prog w k16 45 #[.slice k19 16 20] k6∧Yields0 Try.prog w k16 (Instr.sliceAt 55 k15 (some k9) none none) (.slice k22 4 4)∧(.int .i64 (IntKind.i64.wrap (16+0)):Value) = .int .i64 16∧(.int .i64 (IntKind.i64.wrap (8 * 0)):Value) = .int .i64 0∧Yields0 Try.prog w k16 (do eqGuard BinOp.shr 57 (.tmp 23) (.tmp 25) k6 (.int .i64 0);Go.binOp BinOp.shr 57 k6 (.int .i64 0)) (.int .u32 (k4 / 2 ^ 0))∧Yields0 Try.prog w k16 (convert 57 5 (.int .u32 (k4 / 2 ^ 0))) k10∧Yields0 Try.prog w k16 (Instr.indexAt 55 k15 k9) (.pointer k22)∧StepU Try.prog w k16 (Instr.storeAt 5 (.pointer k22) k10) ((cellsF g2 (arrB k2) 55).S) (Unit) (fun x=>undef) (fun x=>k20)∧∀ x3:Unit,(.int .i64 (IntKind.i64.wrap (0+1)):Value) = .int .i64 1∧(.int .i64 (IntKind.i64.wrap (16+1)):Value) = .int .i64 17∧(.int .i64 (IntKind.i64.wrap (8 * 1)):Value) = .int .i64 8∧Yields0 Try.prog w k20 (do eqGuard BinOp.shr 57 (.tmp 23) (.tmp 25) k6 (.int .i64 8);Go.binOp BinOp.shr 57 k6 (.int .i64 8)) (.int .u32 (k4 / 2 ^ 8))∧Yields0 Try.prog w k20 (convert 57 5 (.int .u32 (k4 / 2 ^ 8))) k11∧Yields0 Try.prog w k20 (Instr.indexAt 55 k15 (.int .i64 17)) k23∧StepU Try.prog w k20 (Instr.storeAt 5 k23 k11) ((cellsF g2 k5 55).S) (Unit) (fun x=>undef) (fun x=>k17)∧∀ x4:Unit,(.int .i64 (IntKind.i64.wrap (1+1)):Value) = .int .i64 2∧(.int .i64 (IntKind.i64.wrap (16+2)):Value) = .int .i64 18∧(.int .i64 (IntKind.i64.wrap (8 * 2)):Value) = .int .i64 16∧Yields0 Try.prog w k17 (do eqGuard BinOp.shr 57 (.tmp 23) (.tmp 25) k6 k9;Go.binOp BinOp.shr 57 k6 k9) (.int .u32 (k4 / 2 ^ 16))∧Yields0 Try.prog w k17 (convert 57 5 (.int .u32 (k4 / 2 ^ 16))) k12∧Yields0 Try.prog w k17 (Instr.indexAt 55 k15 (.int .i64 18)) k24∧StepU Try.prog w k17 (Instr.storeAt 5 k24 k12) ((cellsF g2 (arrB k0) 55).S) (Unit) (fun x=>undef) (fun x=>k18)∧∀ x5:Unit,(.int .i64 (IntKind.i64.wrap (2+1)):Value) = .int .i64 3∧(.int .i64 (IntKind.i64.wrap (16+3)):Value) = .int .i64 19∧(.int .i64 (IntKind.i64.wrap (8 * 3)):Value) = .int .i64 24∧Yields0 Try.prog w k18 (do eqGuard BinOp.shr 57 (.tmp 23) (.tmp 25) k6 (.int .i64 24);Go.binOp BinOp.shr 57 k6 (.int .i64 24)) (.int .u32 (k4 / 2 ^ 24))∧Yields0 Try.prog w k18 (convert 57 5 (.int .u32 (k4 / 2 ^ 24))) k13∧Yields0 Try.prog w k18 (Instr.indexAt 55 k15 (.int .i64 19)) k25∧StepU Try.prog w k18 (Instr.storeAt 5 k25 k13) ((cellsF g2 (arrB k3) 55).S) (Unit) (fun x=>undef) (fun x=>[cellsF g2 (arrB k7) 55])∧∀ x6:Unit,(.int .i64 (IntKind.i64.wrap (3+1)):Value) = .int .i64 4∧Yields0 Try.prog w [cellsF g2 (arrB k7) 55] (Instr.loadAt 55 k15) (.agg (arr20 k7))∧((.agg (arr20 k7):Value) = .agg (arr20 (enc s)))) Try.func23 (by kernel_rfl)
 (fun g0=>fun g1=>fun g2=>⟨fun _ _ _=>trivial,⟨(fun w _ _=>by kernel_rfl),⟨fun x w _ ha=>trivial,(g_put (l:=z20) (off:=0) (by decide)),fun x1=>⟨fun _ _ _=>trivial,⟨(fun w _ _=>by kernel_rfl),⟨fun x w _ ha=>trivial,(g_put (l:=(putAt z20 0 s.g)) (off:=8) (by rw [putAt_len (by decide)];decide)),fun x2=>⟨(fun w _ _=>by kernel_rfl),⟨(g_crc (i:=0) rfl),⟨(fun w _ _=>by kernel_rfl),⟨rfl,⟨rfl,⟨(shr_u32 (m:=0) (by omega) _ _),⟨(conv_s Try.underlying57 Try.underlying5 (by decide) (by decide)),⟨(fun w _ _=>by kernel_rfl),⟨(arr_store (v:=((le4 (crc.more 0 (body s))).getD 0 0)) (i:=0) rfl (by kernel_rfl) (by have:=put2_len s;(try simp only [List.length_set]);omega)),fun x3=>⟨rfl,⟨rfl,⟨rfl,⟨(shr_u32 (m:=8) (by omega) _ _),⟨(conv_s Try.underlying57 Try.underlying5 (by decide) (by decide)),⟨(fun w _ _=>by kernel_rfl),⟨(arr_store (v:=((le4 (crc.more 0 (body s))).getD 1 0)) (i:=0) rfl (by kernel_rfl) (by have:=put2_len s;(try simp only [List.length_set]);omega)),fun x4=>⟨rfl,⟨rfl,⟨rfl,⟨(shr_u32 (m:=16) (by omega) _ _),⟨(conv_s Try.underlying57 Try.underlying5 (by decide) (by decide)),⟨(fun w _ _=>by kernel_rfl),⟨(arr_store (v:=((le4 (crc.more 0 (body s))).getD 2 0)) (i:=0) rfl (by kernel_rfl) (by have:=put2_len s;(try simp only [List.length_set]);omega)),fun x5=>⟨rfl,⟨rfl,⟨rfl,⟨(shr_u32 (m:=24) (by omega) _ _),⟨(conv_s Try.underlying57 Try.underlying5 (by decide) (by decide)),⟨(fun w _ _=>by kernel_rfl),⟨(arr_store (v:=((le4 (crc.more 0 (body s))).getD 3 0)) (i:=0) rfl (by kernel_rfl) (by have:=put2_len s;(try simp only [List.length_set]);omega)),fun x6=>⟨rfl,⟨(box_all (i:=0) rfl (by rw [told_done];exact enc_len s) Try.underlying55 (by kernel_rfl)),(by rw [told_done])⟩⟩⟩⟩⟩⟩⟩⟩⟩⟩⟩⟩⟩⟩⟩⟩⟩⟩⟩⟩⟩⟩⟩⟩⟩⟩⟩⟩⟩⟩⟩⟩⟩⟩⟩⟩⟩⟩)
theorem g_sright {w0:World} {D:List Fact} (s:Sl):Gives Try.prog w0 D 10 #[.agg (sc s)] (.bool (right s)):=fun w _ _=>v_right s w
theorem g_sname {w0:World} {D:List Fact} (g:Int):Gives Try.prog w0 D 14 #[.int .i64 g] (.string (nameV g)):=fun w _ _=>v_name g w
theorem g_told {w0:World} {D:List Fact} (s:Sl):Gives Try.prog w0 D 23 #[.agg (sc s)] (.agg (arr20 (enc s))):=fun w _ _=>v_told s w
theorem g_sread {w0:World} {D:List Fact} {b:Option Addr × Nat} {L:List Nat} (hx:Elems (rdInt .u8) 1 w0 (Lt w0.heap.size) b.1 (toI L)) (hb:∀ b ∈ L,b < 256) (hc:(toI L).length≤b.2) (hl:L.length=20):Gives Try.prog w0 D 25 #[.slice b.1 20 b.2] (.agg (sc (rd L))):=fun w hw _=>by
 have:=v_read b L w (hx.keep (keeps_int _) (below_alike hw) (fun k h=>Nat.lt_of_lt_of_le h hw.size)) hb hc hl
 rw [toI_len,hl] at this
 exact this
def encV (s:Sl):List Nat × Int:=if right s=true then (enc s,0) else ([],1)
theorem enc_yes {s:Sl} (h:right s=true):encV s=(enc s,0):=if_pos h
theorem enc_no {s:Sl} (h:right s=false):encV s=([],1):=if_neg (by rw [h];decide)
abbrev QE (w0:World) (s:Sl):Option Addr × Nat→World→Prop:=fun x w'=>BysIn w' (fun k=>False∨(w0.heap.size≤k∧k < w'.heap.size)) x.1 (encV s).1∧(encV s).1.length≤x.2∧x.2≤maxLen
theorem q_enc {w0:World} {D:List Fact} {s:Sl} {g i:Nat} (h:right s=true) (hi:D[i]?=some (cellsF g (arrB (enc s)) 55)):∃ x:Option Addr × Nat,(.tuple #[.slice (some ⟨g,0,none⟩) 20 20,.int .i64 0]:Value) = .tuple #[.slice x.1 (encV s).1.length x.2,.int .i64 (encV s).2]∧Concl w0 D (QE w0 s x):=by
 unfold QE
 rw [enc_yes h]
 refine ⟨(some ⟨g,0,none⟩,20),by simp only [enc_len],fun w' hB ha hy=>⟨q_box hi (enc_lt s) hB ha hy,by rw [enc_len];omega,by unfold maxLen;omega⟩⟩
theorem q_enc0 {w0:World} {D:List Fact} {s:Sl} (h:right s=false):∃ x:Option Addr × Nat,(.tuple #[.slice none 0 0,.int .i64 1]:Value) = .tuple #[.slice x.1 (encV s).1.length x.2,.int .i64 (encV s).2]∧Concl w0 D (QE w0 s x):=by
 unfold QE
 rw [enc_no h]
 exact ⟨(none,0),rfl,fun w' hB ha hy=>⟨⟨fun x hx=>by simp [toI] at hx,fun h0=>by simp [toI] at h0⟩,by simp,by unfold maxLen;omega⟩⟩
theorem v_encode (s:Sl)  (w:World):Calls Try.prog 8 #[.agg (sc s)] w fun e w' => ∃ x:Option Addr × Nat,e = .returned (.tuple #[.slice x.1 (encV s).1.length x.2,.int .i64 (encV s).2])∧Below w.heap.size w w'∧(QE w s x) w' :=
 calls_q (fn:=Try.f8) (r:=fun (x:Option Addr × Nat)=>.tuple #[.slice x.1 (encV s).1.length x.2,.int .i64 (encV s).2]) (Q:=fun (x:Option Addr × Nat)=>QE w s x) (t:=.gs (right s) (.cs (right s) (.c (.agg (arr20 (enc s))) (.rel 1 (fun g1=>.x (.slice (some ⟨g1,0,none⟩) 20 20) .z))) .z) (.cs (right s) (.c (.agg (arr20 (enc s))) (.rel 1 (fun g1=>.x (.slice (some ⟨g1,0,none⟩) 20 20) .z))) .z)) (X :=
 let k0:=(.tuple #[.slice none 0 0,.int .i64 1]:Value);let k1:=arrB (enc s); ∀ g0:Nat,((right s)=true→Gives Try.prog w [] 10 #[.agg (sc s)] (.bool (right s))∧((right s)=true→Gives Try.prog w [] 23 #[.agg (sc s)] (.agg (arr20 (enc s)))∧∀ g1:Nat,let k2:Option Addr:=some ⟨g1,0,none⟩;Yields0 Try.prog w [cellsF g1 k1 55] (Instr.sliceAt 55 (.pointer k2) none none none) (.slice k2 20 20)∧∃ x:Option Addr × Nat,(.tuple #[.slice k2 20 20,.int .i64 0]:Value) = .tuple #[.slice x.1 (encV s).1.length x.2,.int .i64 (encV s).2]∧Concl w [cellsF g1 k1 55] (QE w s x))∧((right s)=false→∃ x:Option Addr × Nat,k0 = .tuple #[.slice x.1 (encV s).1.length x.2,.int .i64 (encV s).2]∧Concl w [] (QE w s x)))∧((right s)=false→Gives Try.prog w [] 10 #[.agg (sc s)] (.bool (right s))∧((right s)=true→Gives Try.prog w [] 23 #[.agg (sc s)] (.agg (arr20 (enc s)))∧∀ g1:Nat,let k3:Option Addr:=some ⟨g1,0,none⟩;Yields0 Try.prog w [cellsF g1 k1 55] (Instr.sliceAt 55 (.pointer k3) none none none) (.slice k3 20 20)∧∃ x:Option Addr × Nat,(.tuple #[.slice k3 20 20,.int .i64 0]:Value) = .tuple #[.slice x.1 (encV s).1.length x.2,.int .i64 (encV s).2]∧Concl w [cellsF g1 k1 55] (QE w s x))∧((right s)=false→∃ x:Option Addr × Nat,k0 = .tuple #[.slice x.1 (encV s).1.length x.2,.int .i64 (encV s).2]∧Concl w [] (QE w s x)))) Try.func8 (by kernel_rfl)
 (fun g0=>⟨fun h1=>⟨(g_sright _),fun h2=>⟨(g_told _),fun g1=>⟨(fun w _ _=>by kernel_rfl),(q_enc h2 (i:=0) rfl)⟩⟩,
 fun h2=>(q_enc0 h2)⟩,
 fun h1=>⟨(g_sright _),fun h3=>⟨(g_told _),fun g1=>⟨(fun w _ _=>by kernel_rfl),(q_enc h3 (i:=0) rfl)⟩⟩,
 fun h3=>(q_enc0 h3)⟩⟩)
theorem of_not {p:Prop} [Decidable p] (h:(!decide p)=true):¬ p:=by simpa using h
theorem of_yes {p:Prop} [Decidable p] (h:(!decide p)=false):p:=by simpa using h
theorem dec_sum {L:List Nat} (hl:L.length=20) (h:¬ L=enc (rd L)):dec L=(sz,10):=by unfold dec;rw [if_pos hl,if_neg h]
theorem dec_form {L:List Nat} (hl:L.length=20) (h:L=enc (rd L)) (h2:right (rd L)=false):dec L=(sz,2):=by unfold dec;rw [if_pos hl,if_pos h,if_neg (by rw [h2];decide)]
theorem dec_yes {L:List Nat} (hl:L.length=20) (h:L=enc (rd L)) (h2:right (rd L)=true):dec L=(rd L,0):=by unfold dec;rw [if_pos hl,if_pos h,if_pos h2]
theorem kl20 {l:List Nat} (hb:∀ b ∈ l,b < 256):Try.prog.keyLits 2 55 (arr20 l).toList=some ((List.range 20).map fun i=>Lit.int .u8 ((l.getD i 0:Nat):Int)):=by
 have c1:Try.prog.cellsOf 5=1:=by kernel_rfl
 have hg:∀ i,(Lit.int .u8 ((l.getD i 0:Nat):Int)).wf=true:=fun i=>(wf_u8 _).2 (getD_lt hb i)
 have k1:∀ i,Try.prog.keyLits 1 5 [Value.int .u8 ((l.getD i 0:Nat):Int)]=some [Lit.int .u8 ((l.getD i 0:Nat):Int)]:=fun i=>kl_int 0 _ Try.underlying5 (hg i)
 rw [kl_array 1 _ Try.underlying55 (by kernel_rfl),c1]
 simp only [List.range,List.range.loop,List.mapM_cons,List.mapM_nil,arr20,Nat.mul_one,List.drop_succ_cons,List.drop_zero,List.take_succ_cons,List.take_zero,k1,Option.bind_eq_bind,Option.bind_some,Option.pure_def,Option.map_some,List.flatten_cons,List.flatten_nil,List.cons_append,List.nil_append,List.map_cons,List.map_nil]
theorem arr20_inj {a b:List Nat} (ha:a.length=20) (hb:b.length=20):((List.range 20).map fun i=>Lit.int .u8 ((a.getD i 0:Nat):Int))=((List.range 20).map fun i=>Lit.int .u8 ((b.getD i 0:Nat):Int)) ↔ a=b:=by
 constructor
 ·intro h
  apply List.ext_getElem?
  intro i
  rcases Nat.lt_or_ge i 20 with hi | hi
  ·have h1:=congrArg (fun l:List Lit=>l[i]?) h
   simp only [List.getElem?_map,List.getElem?_range hi,Option.map_some,Option.some.injEq] at h1
   injection h1 with _ h1
   rw [List.getElem?_eq_getElem (by omega),List.getElem?_eq_getElem (by omega)]
   rw [List.getD_eq_getElem?_getD,List.getD_eq_getElem?_getD,List.getElem?_eq_getElem (by omega),List.getElem?_eq_getElem (by omega)] at h1
   simp only [Option.getD_some] at h1
   rw [Int.ofNat.inj h1]
  ·rw [List.getElem?_eq_none (by omega),List.getElem?_eq_none (by omega)]
 ·rintro rfl;rfl
theorem arr_neq {w0:World} {D:List Fact} {a b:List Nat} (ha:a.length=20) (hb:b.length=20) (ha8:∀ x ∈ a,x < 256) (hb8:∀ x ∈ b,x < 256) (ox oy:Operand) :
  Yields0 Try.prog w0 D (do eqGuard .neq 55 ox oy (.agg (arr20 a)) (.agg (arr20 b));Go.binOp .neq 55 (.agg (arr20 a)) (.agg (arr20 b))) (.bool (!decide (a=b))) :=
 neq_agg (by kernel_rfl) (fun W=>run_eq_by (by kernel_rfl) 2 (by kernel_rfl) (by kernel_rfl) (kl20 ha8) (kl20 hb8) _ (arr20_inj ha hb) W) ox oy
theorem v_decode20 (b:Option Addr × Nat) (L:List Nat)  (w:World) (hx:Elems (rdInt .u8) 1 w (Lt w.heap.size) b.1 (toI L)) (hb:∀ b ∈ L,b < 256) (hc:(toI L).length≤b.2) (hl:L.length=20):Calls Try.prog 12 #[.slice b.1 20 b.2] w fun e w'=>e = .returned (.tuple #[.agg (sc (dec L).1),.int .i64 (dec L).2])∧Below w.heap.size w w' :=
 calls_by (fn:=Try.f12) (r:=.tuple #[.agg (sc (dec L).1),.int .i64 (dec L).2]) (t:=let k0:=right (rd L);let k1 := !decide (L=enc (rd L)); .k (.c (.agg (sc (rd L))) (.o [] (.two (.x (.agg (arr20 L)) (.c (.agg (arr20 (enc (rd L)))) (.xs k1 .z (.gs k0 (.cs k0 .z .z) (.cs k0 .z .z))))) (.c (.agg (arr20 (enc (rd L)))) (.x (.agg (arr20 L)) (.xs k1 .z (.gs k0 (.cs k0 .z .z) (.cs k0 .z .z))))))))) (X :=
 let k0:Array Value:=#[.agg (sc (dec L).1),.int .i64 (dec L).2];let k1:=(.tuple #[.agg (sc (rd L)),.int .i64 0]:Value) = .tuple k0;let k2:=right (rd L);let k3:=(.tuple #[.agg (sc sz),.int .i64 2]:Value) = .tuple k0;let k4 := !decide (L=enc (rd L));let k5:Value:=.agg (arr20 (enc (rd L)));let k6:Array Value:=#[.agg (sc (rd L))];let k7:Value:=.agg (arr20 L);let k8:=(.tuple #[.agg (sc sz),.int .i64 10]:Value) = .tuple k0;let k9:=Instr.loadAt 55 (.pointer b.1); ∀ g0:Nat,Gives Try.prog w [] 25 #[.slice b.1 20 b.2] (.agg (sc (rd L)))∧∀ g1:Nat,(Yields0 Try.prog w [] k9 k7∧Gives Try.prog w [] 23 k6 k5∧Yields0 Try.prog w [] (do eqGuard BinOp.neq 55 (.tmp 13) (.tmp 15) k7 k5;Go.binOp BinOp.neq 55 k7 k5) (.bool k4)∧(k4=true→k8)∧(k4=false→(k2=true→Gives Try.prog w [] 10 k6 (.bool k2)∧(k2=true→k1)∧(k2=false→k3))∧(k2=false→Gives Try.prog w [] 10 k6 (.bool k2)∧(k2=true→k1)∧(k2=false→k3))))∧(Gives Try.prog w [] 23 k6 k5∧Yields0 Try.prog w [] k9 k7∧Yields0 Try.prog w [] (do eqGuard BinOp.neq 55 (.tmp 13) (.tmp 15) k7 k5;Go.binOp BinOp.neq 55 k7 k5) (.bool k4)∧(k4=true→k8)∧(k4=false→(k2=true→Gives Try.prog w [] 10 k6 (.bool k2)∧(k2=true→k1)∧(k2=false→k3))∧(k2=false→Gives Try.prog w [] 10 k6 (.bool k2)∧(k2=true→k1)∧(k2=false→k3))))) Try.func12 (by kernel_rfl)
 (fun g0=>⟨(g_sread hx hb hc hl),fun g1=>⟨⟨(arr_at ⟨hx,Nat.le_refl _⟩ hl Try.underlying55 (by kernel_rfl)),⟨(g_told _),⟨(arr_neq hl (enc_len _) hb (enc_lt _) _ _),fun h1=>(by rw [dec_sum hl (of_not h1)]),
 fun h1=>⟨fun h2=>⟨(g_sright _),fun h3=>(by rw [dec_yes hl (of_yes h1) h3]),
 fun h3=>(by rw [dec_form hl (of_yes h1) h3])⟩,
 fun h2=>⟨(g_sright _),fun h4=>(by rw [dec_yes hl (of_yes h1) h4]),
 fun h4=>(by rw [dec_form hl (of_yes h1) h4])⟩⟩⟩⟩⟩,
⟨(g_told _),⟨(arr_at ⟨hx,Nat.le_refl _⟩ hl Try.underlying55 (by kernel_rfl)),⟨(arr_neq hl (enc_len _) hb (enc_lt _) _ _),fun h5=>(by rw [dec_sum hl (of_not h5)]),
 fun h5=>⟨fun h6=>⟨(g_sright _),fun h7=>(by rw [dec_yes hl (of_yes h5) h7]),
 fun h7=>(by rw [dec_form hl (of_yes h5) h7])⟩,
 fun h6=>⟨(g_sright _),fun h8=>(by rw [dec_yes hl (of_yes h5) h8]),
 fun h8=>(by rw [dec_form hl (of_yes h5) h8])⟩⟩⟩⟩⟩⟩⟩)
theorem v_decodeN (b:Option Addr × Nat) (n:Nat)  (w:World) (hn:¬ n=20):Calls Try.prog 12 #[.slice b.1 n b.2] w fun e w'=>e = .returned (.tuple #[.agg (sc sz),.int .i64 2])∧Below w.heap.size w w' :=
 calls_by (fn:=Try.f12) (r:=.tuple #[.agg (sc sz),.int .i64 2]) (t:=.m true .z) (X :=
∀ g0:Nat,(!decide ((n:Int)=20))=true∧((.tuple #[.agg (sc sz),.int .i64 2]:Value) = .tuple #[.agg (sc sz),.int .i64 2])) Try.func12 (by kernel_rfl)
 (fun g0=>⟨by simp only [dq];omega,rfl⟩)
theorem v_decode (b:Option Addr × Nat) (L:List Nat) (w:World) (hx:BysIn w (Lt w.heap.size) b.1 L) (hb:∀ b ∈ L,b < 256) (hc:L.length≤b.2):Calls Try.prog 12 #[.slice b.1 L.length b.2] w fun e w'=>e = .returned (.tuple #[.agg (sc (dec L).1),.int .i64 (dec L).2])∧Below w.heap.size w w':=by
 by_cases hl:L.length=20
 ·have:=v_decode20 b L w (el_of hx) hb (by rw [toI_len];exact hc) hl
  rw [hl]
  exact this
 ·rw [dec_short hl]
  exact v_decodeN b L.length w hl
theorem g_decode {w0:World} {D:List Fact} {b:Option Addr × Nat} {L:List Nat} (hx:∀ w,Below w0.heap.size w0 w→All D w→BysIn w (Lt w.heap.size) b.1 L) (hb:∀ b ∈ L,b < 256) (hc:L.length≤b.2):Gives Try.prog w0 D 12 #[.slice b.1 L.length b.2] (.tuple #[.agg (sc (dec L).1),.int .i64 (dec L).2]):=fun w hw ha=>v_decode b L w (hx w hw ha) hb hc
end Go.Proofs.Ytlipgnenbdchmaa.slot
