/-
  RowL
-/
import Derived.Test.YtbbjlfbemibfcaaGreatMrt52
import Derived.Test.YtbbjlfbemibfcaaGreatMrt12
import Derived.Test.YtbbjlfbemibfcaaGreatMrt09
set_option linter.unusedVariables false
set_option linter.unusedSimpArgs false
namespace Go.Proofs.YtbbjlfbemibfcaaGreat.row
set_option maxRecDepth 20000
open Go.RowKit Go.Proofs.YtbbjlfbemibfcaaGreat
open Go.Proofs.YtbbjlfbemibfcaaGreat.book (St right)
theorem el_of {w:World} {S:Nat→Prop} {A:Option Addr} {L:List Nat} (h:BysIn w S A L):Elems (rdInt .u8) 1 w S A (toI L):=fun h0=>by
 obtain ⟨b,off,e,hS,hc⟩:=h.2 h0
 refine ⟨b,off,e,hS,fun j x hj=>⟨[.int .u8 x],rfl,fun i c hi=>?_,rfl,h.1 x (List.mem_of_getElem? hj)⟩⟩
 have hlt:j < (toI L).length:=(List.getElem?_eq_some_iff.1 hj).1
 have:=hc j hlt
 rw [List.getD_eq_getElem?_getD,hj] at this
 cases i with
 |zero=>simp at hi;subst hi;simpa using this
 |succ i=>simp at hi
theorem dec_err {L:List Nat} (h:¬ (decV L).2=0):(decV L).1=zst:=by
 by_cases h1:MayBe L
 ·by_cases h2:sm L=frame.le4 (crc.more 0 (txt L))
  ·by_cases h3:right (rdV L)=true
   ·by_cases h4:txt L=told (rdV L)
    ·rw [dec_yes h1 h2 h3 h4] at h;exact absurd rfl h
    ·rw [dec_no2 h1 h2 h4]
   ·rw [dec_no1 h1 h2 (by simpa using h3)]
  ·rw [dec_sum h1 h2]
 ·rw [dec_form h1]
theorem dec_ok {L:List Nat} (h:(decV L).2=0):right (decV L).1=true∧whole (decV L).1=L:=by
 by_cases h1:MayBe L
 ·by_cases h2:sm L=frame.le4 (crc.more 0 (txt L))
  ·by_cases h3:right (rdV L)=true
   ·by_cases h4:txt L=told (rdV L)
    ·rw [dec_yes h1 h2 h3 h4]
     refine ⟨h3,?_⟩
     unfold whole
     rw [← h4,← h2]
     exact List.take_append_drop _ _
    ·rw [dec_no2 h1 h2 h4] at h;exact absurd h (by decide)
   ·rw [dec_no1 h1 h2 (by simpa using h3)] at h;exact absurd h (by decide)
  ·rw [dec_sum h1 h2] at h;exact absurd h (by decide)
 ·rw [dec_form h1] at h;exact absurd h (by decide)
theorem zst_in {w:World} : InS w (Lt w.heap.size) zsv zst:=⟨fun h=>absurd h (Nat.lt_irrefl 0),fun h=>absurd h (Nat.lt_irrefl 0),fun h=>absurd h (Nat.lt_irrefl 0),fun h=>absurd h (Nat.lt_irrefl 0),⟨Nat.le_refl _,Nat.zero_le _⟩,⟨Nat.le_refl _,Nat.zero_le _⟩,⟨Nat.le_refl _,Nat.zero_le _⟩,⟨Nat.le_refl _,Nat.zero_le _⟩,⟨zero_in,zero_in,zero_in,zero_in,zero_in⟩⟩
section
variable {P:Program} {w0:World} {D:List Fact} {A:Option Addr} {n c:Nat} {L M:List Nat} {s t:St} {T:TypeId}
theorem putB_lt {k:Nat} {l:List Int} : ∀ b ∈ putB k l,b < 256:=fun b hb=>by
 unfold putB at hb
 obtain ⟨n,_,hb⟩:=List.mem_flatMap.1 hb
 exact frame.be_lt _ _ _ hb
theorem told_lt (s:St):∀ b ∈ told s,b < 256:=fun b hb=>by
 rw [told_is] at hb
 simp only [t2,t1,List.mem_append,List.mem_flatMap] at hb
 rcases hb with ((hb | hb) | hb) | ⟨o,_,hb⟩ | ⟨o,_,hb⟩ | ⟨o,_,hb⟩ | hb
 ·simp at hb;omega
 ·exact putB_lt b hb
 ·exact putB_lt b hb
 ·simp only [ordB,List.mem_append] at hb
  rcases hb with ((hb | hb) | hb) | hb<;>exact putB_lt b hb
 ·exact putB_lt b hb
 ·exact putB_lt b hb
 ·exact putB_lt b hb
theorem whole_lt (s:St):∀ b ∈ whole s,b < 256:=fun b hb=>by
 unfold whole at hb
 rcases List.mem_append.1 hb with hb | hb
 ·exact told_lt s b hb
 ·simp only [frame.le4,List.mem_cons,List.not_mem_nil,or_false] at hb
  omega
end
theorem dec_cases (L:List Nat):(decV L).2=0∨(decV L).2=2∨(decV L).2=10:=by
 by_cases h1:MayBe L
 ·by_cases h2:sm L=frame.le4 (crc.more 0 (txt L))
  ·by_cases h3:right (rdV L)=true
   ·by_cases h4:txt L=told (rdV L)
    ·rw [dec_yes h1 h2 h3 h4];exact .inl rfl
    ·rw [dec_no2 h1 h2 h4];exact .inr (.inl rfl)
   ·rw [dec_no1 h1 h2 (by simpa using h3)];exact .inr (.inl rfl)
  ·rw [dec_sum h1 h2];exact .inr (.inr rfl)
 ·rw [dec_form h1];exact .inr (.inl rfl)
def bd (s:St) (f k:Nat) (ys:List Nat):List Nat:=crc.turn (whole s) (crc.amid f k ((whole s).length - f - k) ys)
def kAt (s:St) (a:Nat):Nat:=a % ((whole s).length - 3)
section
variable {s:St} {f k a:Nat} {ys:List Nat}
theorem kAt_lt (h:36≤(toI (whole s)).length):kAt s a+4≤(whole s).length:=by
 rw [toI_len] at h
 have:a % ((whole s).length - 3) < (whole s).length - 3:=Nat.mod_lt _ (by omega)
 unfold kAt;omega
theorem bd_zero (h:36≤(toI (whole s)).length):bd s (kAt s a) 0 ys=whole s:=by
 have:=kAt_lt (a:=a) h
 unfold bd
 rw [crc.amid_zero,show kAt s a+((whole s).length - kAt s a - 0)=(whole s).length by omega,crc.turn_zeros]
theorem bd_len (h:36≤(toI (whole s)).length) (h4:ys.length=4) (hk:k≤4):(bd s (kAt s a) k ys).length=(whole s).length:=by
 have:=kAt_lt (a:=a) h
 unfold bd
 exact crc.turn_len _ _ (by rw [crc.amid_len _ _ _ _ (by omega)];omega)
theorem bd_step (h:36≤(toI (whole s)).length) (h4:ys.length=4) (hk:k < 4) :
  (toI (bd s (kAt s a) k ys)).set (kAt s a+k) ((((whole s).getD (kAt s a+k) 0 ^^^ ys.getD k 0:Nat)):Int)=toI (bd s (kAt s a) (k+1) ys):=by
 have hl:=kAt_lt (a:=a) h
 have e1:ys[k]?=some (ys.getD k 0):=by rw [List.getD_eq_getElem?_getD,List.getElem?_eq_getElem (by omega)];rfl
 have e2:(whole s)[kAt s a+k]?=some ((whole s).getD (kAt s a+k) 0):=by rw [List.getD_eq_getElem?_getD,List.getElem?_eq_getElem (by omega)];rfl
 unfold bd
 rw [crc.amid_step _ k ((whole s).length - kAt s a - (k+1)) _ ys e1,show (whole s).length - kAt s a - (k+1)+1=(whole s).length - kAt s a - k by omega,crc.turn_set (whole s) _ _ _ _ e2]
 unfold toI
 rw [List.map_set]
theorem bd_at (h:36≤(toI (whole s)).length) (h4:ys.length=4) (hk:k < 4):(toI (bd s (kAt s a) k ys)).getD (kAt s a+k) 0=(((whole s).getD (kAt s a+k) 0:Nat):Int):=by
 have hl:=kAt_lt (a:=a) h
 have e2:(whole s)[kAt s a+k]?=some ((whole s).getD (kAt s a+k) 0):=by rw [List.getD_eq_getElem?_getD,List.getElem?_eq_getElem (by omega)];rfl
 have e3:(crc.amid (kAt s a) k ((whole s).length - kAt s a - k) ys)[kAt s a+k]?=some 0:=by
  unfold crc.amid
  rw [List.getElem?_append_right (by simp;omega),List.getElem?_replicate,if_pos (by simp;omega)]
 have:=crc.turn_at e2 e3
 rw [List.getD_eq_getElem?_getD]
 unfold toI
 rw [List.getElem?_map]
 unfold bd
 rw [this];simp
theorem whole_small (h:right s=true):(toI (whole s)).length≤10000:=by
 have h1:=lens_of h
 rw [toI_len,whole_size h1]
 exact (size_small h1).2
theorem whole36 (h:right s=true):36≤(toI (whole s)).length:=by
 have h1:=lens_of h
 rw [toI_len,whole_size h1]
 exact (size_small h1).1
theorem bd_same (h:36≤(toI (whole s)).length) (hz:ys=[0,0,0,0]):bd s (kAt s a) 4 ys=whole s:=by
 have:=kAt_lt (a:=a) h
 unfold bd crc.amid
 rw [hz,show List.take 4 [0,0,0,0]=List.replicate 4 0 from rfl,List.replicate_append_replicate,List.replicate_append_replicate,show kAt s a+4+((whole s).length - kAt s a - 4)=(whole s).length by omega,crc.turn_zeros]
theorem bd_other (h:36≤(toI (whole s)).length) (h4:ys.length=4) (hy:∀ b ∈ ys,b < 256) (hz:¬ ys=[0,0,0,0]):¬ (decV (bd s (kAt s a) 4 ys)).2=0:=fun h0=>by
 have hl:=kAt_lt (a:=a) h
 obtain ⟨_,e⟩:=dec_ok h0
 have e4:ys.take 4=ys:=List.take_of_length_le (by omega)
 have e5:whole (decV (bd s (kAt s a) 4 ys)).1=crc.turn (whole s) (List.replicate (kAt s a) 0++ys++List.replicate ((whole s).length - kAt s a - 4) 0):=by
  rw [e];unfold bd crc.amid;rw [e4]
 have hz2:=turned_same (told_lt s) (told_lt _) (by omega) (fun b hb=>List.eq_of_mem_replicate hb) hy (fun b hb=>List.eq_of_mem_replicate hb) (by simp;omega) e5
 apply hz
 match ys,h4,hz2 with
 | [a0,a1,a2,a3],_,hz2=>rw [hz2 a0 (by simp),hz2 a1 (by simp),hz2 a2 (by simp),hz2 a3 (by simp)]
end
theorem rem_is {P:Program} {w0:World} {D:List Fact} {T:TypeId} {a b:Nat} {x y:Int} (hx:x=(a:Int)) (hy:y=(b:Int)) (h1:0 < b) (h2:b≤1000000) (ox oy:Operand) :
  Yields0 P w0 D (do eqGuard .rem T ox oy (.int .i64 x) (.int .i64 y);Go.binOp .rem T (.int .i64 x) (.int .i64 y)) (.int .i64 ((a % b:Nat):Int)):=fun w _ _=>by
 subst hx hy
 have hb:¬ (b:Int)=0:=by omega
 have e:Int.tmod (a:Int) (b:Int)=((a % b:Nat):Int):=by rw [Int.ofNat_tmod]
 have e1:eqGuard .rem T ox oy (.int .i64 (a:Int)) (.int .i64 (b:Int))=pure ():=rfl
 have e2:Go.binOp .rem T (.int .i64 (a:Int)) (.int .i64 (b:Int))=Op.intDiv .rem .i64 (a:Int) (b:Int):=by simp [Go.binOp]
 rw [e1,Sem.run_bind,Sem.run_pure,Result.andThen_ok,e2]
 unfold Op.intDiv
 rw [if_neg hb]
 simp only [e]
 rfl
def arrC (ys:List Nat):Array Value:=#[.int .u8 ((ys.getD 0 0:Nat):Int),.int .u8 ((ys.getD 1 0:Nat):Int),.int .u8 ((ys.getD 2 0:Nat):Int),.int .u8 ((ys.getD 3 0:Nat):Int)]
section
variable {P:Program} {w0:World} {D:List Fact} {ys:List Nat} {g k n c:Nat} {A:Option Addr} {L:List Nat}
theorem box_index {t e:TypeId} {bytes:Nat} {z:Value} (ht:P.underlying t=some (.array 4 e)) (hinfo:(P.info? e).map (fun i=>(i.zero,i.size,i.bytes))=some (some z,1,bytes)) (hk:k < 4) :
  Yields0 P w0 D (Instr.indexAt t (.pointer (some ⟨g,0,none⟩)) (.int .i64 (k:Int))) (.pointer (some ⟨g,k,none⟩)):=fun w _ _=>by
 obtain ⟨i,hi,hz,hsz,hby⟩:=info_parts hinfo
 have h1:(k:Int) < 4:=by omega
 simp [Instr.indexAt,Sem.run_bind,Result.andThen_ok,asIntOf,run_underlying ht,Instr.sureAddr,sizeOf,typeInfo,hi,hsz,Addr.add_mid,h1]
 intro h9;omega
theorem box_load {t T:TypeId} {i:Nat} (hi:D[i]?=some (cellsF g (arrC ys) t)) (hu:P.underlying T=some (.int .u8)) (hk:k < 4):Yields0 P w0 D (Instr.loadAt T (.pointer (some ⟨g,k,none⟩))) (.int .u8 ((ys.getD k 0:Nat):Int)):=fun w hw ha=>by
 have hb:w.heap[g]?=some (.cells (arrC ys) t (0,0)):=All_iff.1 ha _ (List.mem_of_getElem? hi)
 refine run_loadAt_cell hu (block_cell hb k _ ?_).1
 rcases (show k=0∨k=1∨k=2∨k=3 by omega) with rfl | rfl | rfl | rfl<;>rfl
theorem own_load1 {T e:TypeId} {n c j:Nat} {xs:List Int} {x:Int} (hu:P.underlying T=some (.int .u8)) (hrow:∀ w,All D w→OwnElems (rdInt .u8) 1 w 0 e (fun _=>False) A n c xs) (hx:xs[j]?=some x) :
  Yields0 P w0 D (Instr.loadAt T (.pointer (some ⟨blkA A,offA A+j * 1,none⟩))) (.int .u8 x):=by
 have:=own_load (P:=P) (w0:=w0) (off:=0) (v:=.int .u8 x) (keeps_int .u8) (by decide) byte_cells hu hrow hx rfl
 simpa using this
theorem xor_is {T:TypeId} {x:Int} {p q:Nat} (hx:x=(p:Int)) (hp:p < 256) (hq:q < 256) (ox oy:Operand) :
  Yields0 P w0 D (do eqGuard .xor T ox oy (.int .u8 x) (.int .u8 (q:Int));Go.binOp .xor T (.int .u8 x) (.int .u8 (q:Int))) (.int .u8 ((p ^^^ q:Nat):Int)):=fun w _ _=>by
 subst hx
 have e1:eqGuard .xor T ox oy (.int .u8 (p:Int)) (.int .u8 (q:Int))=pure ():=rfl
 rw [e1,Sem.run_bind,Sem.run_pure,Result.andThen_ok]
 have e:=u8_xor_nat p q hp hq
 have e2:Go.binOp .xor T (.int .u8 (p:Int)) (.int .u8 (q:Int))=Op.intBits .xor .u8 (p:Int) (q:Int):=by simp [Go.binOp]
 rw [e2]
 exact congrArg (fun q=>Result.ok (Value.int .u8 q) w) e
theorem conv_u16 {src dst:TypeId} {a:Nat} (hs:P.underlying src=some (.int .u16)) (hd:P.underlying dst=some (.int .i64)) (ha:a < 65536):Yields0 P w0 D (convert src dst (.int .u16 (a:Int))) (.int .i64 (a:Int)):=fun w _ _=>by
 have hk' : P.intKind dst = .i64:=by simp [Program.intKind,hd]
 rw [run_convert_int w src dst .u16 _ (by rw [hs];rfl) (by rw [hk'];exact hd),hk']
 exact congrArg (Result.ok · w) (wrap_is rfl (by omega) (by omega))
theorem own_el {j:Nat} (h:D[j]?=some (ownF (rdInt .u8) 1 5 A n c (toI L))):∀ w,Below w0.heap.size w0 w→All D w→n=(toI L).length∧Elems (rdInt .u8) 1 w (Lt w.heap.size) A (toI L)∧L.length≤c∧L.length≤9223372036854775807:=fun w hw ha=>by
 have hn:(toI L).length=n:=(row_at h w ha).len
 subst hn
 exact ⟨rfl,own_dec h w hw ha⟩
theorem t_dec {s:St} {r:Int} {S:Nat→Prop} {W:World} {j:Nat} (hd:Fixed w0 D S W) (h:D[j]?=some (ownF (rdInt .u8) 1 5 A n c (toI L))) (hv:decV L=(s,r)) :
  GivesM Tryz.prog w0 D 14 #[.slice A n c] (Dat (fun w S v=>InS w S v s) S W) (fun x=>.tuple #[.agg (stc x.1.2.2 s),.int .i64 r]) (fun x=>[poolF x.1.1 x.1.2.1]):=fun w hw ha=>by
 obtain ⟨rfl,_⟩:=own_el h w hw ha
 exact g_decode hd (fun w hw ha=>(own_el h w hw ha).2) hv w hw ha
theorem cut_dec {s:St} {r:Int} {S:Nat→Prop} {W:World} {j q:Nat} (hd:Fixed w0 D S W) (h:D[j]?=some (ownF (rdInt .u8) 1 5 A n c (toI L))) (hq:q≤L.length) (hv:decV (L.take q)=(s,r)) :
  GivesM Tryz.prog w0 D 14 #[.slice A (toI (L.take q)).length c] (Dat (fun w S v=>InS w S v s) S W) (fun x=>.tuple #[.agg (stc x.1.2.2 s),.int .i64 r]) (fun x=>[poolF x.1.1 x.1.2.1]) :=
 g_decode hd (fun w hw ha=>by
  obtain ⟨_,h1,h2,h3⟩:=own_el h w hw ha
  have e:toI (L.take q)=(toI L).take q:=by simp [toI]
  refine ⟨by rw [e];exact book.elems_take h1 _,?_,?_⟩<;>(rw [List.length_take];omega)) hv
theorem run_eq4 (a b c d a' b' c' d' : Nat) (h:a < 256∧b < 256∧c < 256∧d < 256) (h' : a' < 256∧b' < 256∧c' < 256∧d' < 256) (W:World) :
  (Op.equalIn 10000 43 (.agg #[.int .u8 (a:Int),.int .u8 (b:Int),.int .u8 (c:Int),.int .u8 (d:Int)]) (.agg #[.int .u8 (a' : Int),.int .u8 (b' : Int),.int .u8 (c' : Int),.int .u8 (d' : Int)])).run Tryz.prog W = .ok (decide (a=a'∧b=b'∧c=c'∧d=d')) W:=by
 have c1:Tryz.prog.cellsOf 5=1:=by kernel_rfl
 have kl:∀ a b c d:Nat,a < 256∧b < 256∧c < 256∧d < 256→Tryz.prog.keyLits 2 43 [.int .u8 (a:Int),.int .u8 (b:Int),.int .u8 (c:Int),.int .u8 (d:Int)]=some [.int .u8 (a:Int),.int .u8 (b:Int),.int .u8 (c:Int),.int .u8 (d:Int)]:=by
  rintro a b c d ⟨h0,h1,h2,h3⟩
  rw [kl_array 1 _ Tryz.underlying43 (by kernel_rfl),c1]
  simp [List.range,List.range.loop,kl_int 0 _ Tryz.underlying5,wf_u8,h0,h1,h2,h3]
 exact run_eq_by (by kernel_rfl) 2 (by kernel_rfl) (by kernel_rfl) (kl a b c d h) (kl a' b' c' d' h') _ (by simp;omega) W
theorem four_zero (h4:ys.length=4):(ys=[0,0,0,0]) ↔ (ys.getD 0 0=0∧ys.getD 1 0=0∧ys.getD 2 0=0∧ys.getD 3 0=0):=by
 match ys,h4 with
 | [a0,a1,a2,a3],_=>simp
theorem arr_zero {b:Bool} (h4:ys.length=4) (hy:∀ b ∈ ys,b < 256) (hb:decide (ys=[0,0,0,0])=b) (ox oy:Operand) :
  Yields0 Tryz.prog w0 D (do eqGuard .eql 43 ox oy (.agg (arrC ys)) (.agg #[.int .u8 0,.int .u8 0,.int .u8 0,.int .u8 0]);Go.binOp .eql 43 (.agg (arrC ys)) (.agg #[.int .u8 0,.int .u8 0,.int .u8 0,.int .u8 0])) (.bool b):=fun w hw ha=>by
 have hg:∀ i,ys.getD i 0 < 256:=fun i=>getD_lt hy
 have e:decide (ys.getD 0 0=0∧ys.getD 1 0=0∧ys.getD 2 0=0∧ys.getD 3 0=0)=b:=by rw [← hb];exact decide_eq_decide.2 (four_zero h4).symm
 exact (eql_agg (w0:=w0) (D:=D) (by kernel_rfl) (fun W=>by have h:=run_eq4 (ys.getD 0 0) (ys.getD 1 0) (ys.getD 2 0) (ys.getD 3 0) 0 0 0 0 ⟨hg 0,hg 1,hg 2,hg 3⟩ (by decide) W;rw [e] at h;exact h) ox oy) w hw ha
end
end Go.Proofs.YtbbjlfbemibfcaaGreat.row
