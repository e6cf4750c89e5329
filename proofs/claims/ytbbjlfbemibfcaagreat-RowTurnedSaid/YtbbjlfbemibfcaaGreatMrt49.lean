/-
  RowM, RowD
-/
import Derived.Test.YtbbjlfbemibfcaaGreatMrt46
import Derived.Test.YtbbjlfbemibfcaaGreatMrt03
import Derived.Test.YtbbjlfbemibfcaaGreatMrt17
import Derived.Test.YtbbjlfbemibfcaaGreatMrt48
set_option linter.unusedVariables false
set_option linter.unusedSimpArgs false
section
namespace Go.Proofs.YtbbjlfbemibfcaaGreat.row
open Go.RowKit Go.Proofs.YtbbjlfbemibfcaaGreat
set_option maxRecDepth 20000
open Go.Proofs.YtbbjlfbemibfcaaGreat.frame (be be_len be_lt u le4)
open Go.Proofs.YtbbjlfbemibfcaaGreat.book (St right)
open Go.Proofs.YtbbjlfbemibfcaaGreat.order (Or oz)
def szN (a y n:Nat):Nat:=32+n * 61+a * y * 32+a * 8+4
def MayBe (L:List Nat):Prop:=36≤L.length∧L.take 4=[115,110,97,102]∧1≤L.getD 4 0∧L.getD 4 0≤8∧1≤L.getD 5 0∧L.getD 5 0≤8∧L.getD 7 0≤64∧L.length=szN (L.getD 4 0) (L.getD 5 0) (L.getD 7 0)
instance (L:List Nat):Decidable (MayBe L):=by unfold MayBe;infer_instance
section
variable {P:Program} {w0:World} {D:List Fact} {l L M:List Nat} {i k n c:Nat} {A:Option Addr}
theorem to_str {src e dst:TypeId} (hs:P.underlying src=some (.slice e)) (he:P.underlying e=some (.int .u8)) (hd:P.underlying dst=some .string) (h:Bys w0 w0.heap.size A L) :
  Yields0 P w0 D (convert src dst (.slice A (toI L).length c)) (.string (strB L)):=fun w hw _=>run_bys_string (h.below hw) (by simp [toI]) src e dst hs he hd
theorem conv_int {src dst:TypeId} (hs:P.underlying src=some (.int .u8)) (hd:P.underlying dst=some (.int .i64)) (hi:i < l.length) (h:∀ b ∈ l,b < 256) :
  Yields0 P w0 D (convert src dst (.int .u8 ((toI l).getD i 0))) (.int .i64 ((l.getD i 0:Nat):Int)):=fun w _ _=>by
 have hk' : P.intKind dst = .i64:=by simp [Program.intKind,hd]
 have e:(toI l).getD i 0=((l.getD i 0:Nat):Int):=by
  rw [List.getD_eq_getElem?_getD,List.getD_eq_getElem?_getD];unfold toI;rw [List.getElem?_map,List.getElem?_eq_getElem hi];rfl
 have:=getD_lt (i:=i) h
 rw [run_convert_int w src dst .u8 _ (by rw [hs];rfl) (by rw [hk'];exact hd),hk',e]
 exact congrArg (Result.ok · w) (wrap_is rfl (by omega) (by omega))
theorem cut_4 {t e:TypeId} {bytes:Nat} {z:Value} (ht:P.underlying t=some (.slice e)) (hinfo:(P.info? e).map (fun i=>(i.zero,i.size,i.bytes))=some (some z,1,bytes)) (h:4≤L.length) (hc:4≤c) :
  Yields0 P w0 D (Instr.sliceAt t (.slice A (toI L).length c) none (some (.int .i64 4)) none) (.slice A (toI (L.take 4)).length c):=fun w hw ha=>by
 have:=book.slice_upto (P:=P) (A:=A) (n:=(toI L).length) (c:=c) (k:=4) ht hinfo hc w
 have e:(toI (L.take 4)).length=4:=by simp [toI];omega
 rw [e];exact this
theorem list_eq2 {a b:ByteArray} : (a.toList == b.toList)=decide (a=b):=by
 rw [Bool.eq_iff_iff,beq_iff_eq,decide_eq_true_eq,ByteArray.toList_eq,ByteArray.toList_eq]
 constructor
 ·intro h
  obtain ⟨⟨x⟩⟩:=a
  obtain ⟨⟨y⟩⟩:=b
  simp at h
  rw [h]
 ·intro h;rw [h]
theorem str_eql {T:TypeId} {a b:ByteArray} (ox oy:Operand) :
  Yields0 P w0 D (do eqGuard .eql T ox oy (.string a) (.string b);Go.binOp .eql T (.string a) (.string b)) (.bool (decide (a=b))):=by
 intro w _ _
 rw [← list_eq2]
 simp [eqGuard,Go.binOp,Sem.run_bind,Result.andThen_ok,Op.stringOp]
theorem str_neq {T:TypeId} {a b:ByteArray} (ox oy:Operand) :
  Yields0 P w0 D (do eqGuard .neq T ox oy (.string a) (.string b);Go.binOp .neq T (.string a) (.string b)) (.bool (!decide (a=b))):=by
 intro w _ _
 rw [← list_eq2]
 simp [eqGuard,Go.binOp,Sem.run_bind,Result.andThen_ok,Op.stringOp]
theorem strB_inj {a b:List Nat} (ha:∀ x ∈ a,x < 256) (hb:∀ x ∈ b,x < 256):strB a=strB b ↔ a=b:=by
 rw [← strB_eq ha hb]
 constructor
 ·intro h;rw [h]
 ·intro h
  have:=list_eq2 (a:=strB a) (b:=strB b)
  rw [h] at this
  simpa using this.symm
theorem mark_str:strB [115,110,97,102]=⟨#[115,110,97,102]⟩:=by decide +kernel
theorem mark_iff (h:∀ b ∈ L,b < 256):strB (L.take 4)=⟨#[115,110,97,102]⟩ ↔ L.take 4=[115,110,97,102]:=by
 rw [← mark_str]
 exact strB_inj (fun x hx=>h x (List.mem_of_mem_take hx)) (by decide)
theorem g_size3 {a y n:Nat} (ha:a≤8) (hy:y≤8) (hn:n≤64):Gives Tryz.prog w0 D 26 #[.int .i64 (a:Int),.int .i64 (y:Int),.int .i64 (n:Int)] (.int .i64 ((szN a y n:Nat):Int)):=fun w _ _=>l_size a y n w ha hy hn
end
theorem l_Equal (A A2:Option Addr) (c c2:Nat) (L M:List Nat)  (w:World) (hx:Bys w w.heap.size A L) (hy:Bys w w.heap.size A2 M):Calls Tryz.prog 31 #[.slice A (toI L).length c,.slice A2 (toI M).length c2] w fun e w'=>e = .returned (.bool (decide (L=M)))∧Below w.heap.size w w' :=
 calls_by (fn:=Tryz.f31) (r:=.bool (decide (L=M))) (t:=.x (.string (strB L)) (.x (.string (strB M)) (.xs (decide (strB L=strB M)) .z .z))) (X :=
 let k0:=decide (strB L=strB M);let k1:Value:=.string (strB L);let k2:Value:=.string (strB M);Yields0 Tryz.prog w [] (convert 28 9 (.slice A ((toI L).length) c)) k1∧Yields0 Tryz.prog w [] (convert 28 9 (.slice A2 ((toI M).length) c2)) k2∧Yields0 Tryz.prog w [] (do eqGuard BinOp.eql 9 (.tmp 6) (.tmp 8) k1 k2;Go.binOp BinOp.eql 9 k1 k2) (.bool k0)∧(k0=true→((.bool true:Value) = .bool (decide (L=M))))∧(k0=false→((.bool false:Value) = .bool (decide (L=M))))) Tryz.func31 (by kernel_rfl)
 (⟨(to_str Tryz.underlying28 Tryz.underlying5 Tryz.underlying9 hx),⟨(to_str Tryz.underlying28 Tryz.underlying5 Tryz.underlying9 hy),⟨(str_eql _ _),fun h1=>(by rw [show decide (L=M)=decide (strB L=strB M) from decide_eq_decide.2 (strB_inj hx.lt hy.lt).symm,h1]),
 fun h1=>(by rw [show decide (L=M)=decide (strB L=strB M) from decide_eq_decide.2 (strB_inj hx.lt hy.lt).symm,h1])⟩⟩⟩)
theorem l_mayBe (A:Option Addr) (c:Nat) (L:List Nat)  (w:World) (hE:Elems (rdInt .u8) 1 w (Lt w.heap.size) A (toI L)) (hc:L.length≤c):Calls Tryz.prog 30 #[.slice A (toI L).length c] w fun e w'=>e = .returned (.bool (decide (MayBe L)))∧Below w.heap.size w w' :=
 have hdl:(toI L).length=L.length:=by simp [toI]
 have hb8:∀ b ∈ L,b < 256:=toI_lt hE
 have hx:Bys w w.heap.size A L:=BysIn.bys (elems_bys hE (elems_wf hE)) (fun _ h=>h)
 calls_by (fn:=Tryz.f30) (r:=.bool (decide (MayBe L))) (t:=.s (.k .z) (.k (.x (.slice A ((toI (L.take 4)).length) c) (.x (.string (strB (L.take 4))) (.xs (!decide (strB (L.take 4)=⟨#[115,110,97,102]⟩)) .z (.o [] (.p (blkA A) (offA A+4 * 1) #[.int .u8 ((toI L).getD 4 0)] (.x (.int .i64 (((L.getD 4 0):Nat):Int)) (.p (blkA A) (offA A+5 * 1) #[.int .u8 ((toI L).getD 5 0)] (.x (.int .i64 (((L.getD 5 0):Nat):Int)) (.p (blkA A) (offA A+7 * 1) #[.int .u8 ((toI L).getD 7 0)] (.x (.int .i64 (((L.getD 7 0):Nat):Int)) (.s (.k (.s (.k (.s (.k (.s (.k (.s (.k (.c (.int .i64 ((szN (L.getD 4 0) (L.getD 5 0) (L.getD 7 0):Nat):Int)) (.s .z .z))) (.k .z))) (.k (.k .z)))) (.k (.k (.k .z))))) (.k (.k (.k (.k .z)))))) (.k (.k (.k (.k (.k .z)))))))))))))))))) (X :=
 let k0:=(.bool false:Value) = .bool (decide (MayBe L));let k1:=(((L.getD 4 0):Nat):Int);let k2:=(((L.getD 5 0):Nat):Int);let k3:=((szN (L.getD 4 0) (L.getD 5 0) (L.getD 7 0):Nat):Int);let k4:=(((L.getD 7 0):Nat):Int);let k5:Value:=.slice A ((toI L).length) c;let k6:=((toI L).length:Int);let k7:Value:=.string ⟨#[115,110,97,102]⟩;let k8:Value:=.string (strB (L.take 4));let k9:Value:=.slice A ((toI (L.take 4)).length) c;((decide (k6 < 36))=true→k0)∧((decide (k6 < 36))=false→Yields0 Tryz.prog w [] (Instr.sliceAt 28 k5 none (some (.int .i64 4)) none) k9∧Yields0 Tryz.prog w [] (convert 28 9 k9) k8∧Yields0 Tryz.prog w [] (do eqGuard BinOp.neq 9 (.tmp 12) (.const k7) k8 k7;Go.binOp BinOp.neq 9 k8 k7) (.bool (!decide (strB (L.take 4)=⟨#[115,110,97,102]⟩)))∧((!decide (strB (L.take 4)=⟨#[115,110,97,102]⟩))=true→k0)∧((!decide (strB (L.take 4)=⟨#[115,110,97,102]⟩))=false→Yields0 Tryz.prog w [] (Instr.indexAt 28 k5 (.int .i64 4)) (.pointer (some ⟨blkA A,offA A+4 * 1,none⟩))∧Reads0 w [] (blkA A) (offA A+4 * 1) #[.int .u8 ((toI L).getD 4 0)]∧Yields0 Tryz.prog w [] (convert 5 3 (.int .u8 ((toI L).getD 4 0))) (.int .i64 k1)∧Yields0 Tryz.prog w [] (Instr.indexAt 28 k5 (.int .i64 5)) (.pointer (some ⟨blkA A,offA A+5 * 1,none⟩))∧Reads0 w [] (blkA A) (offA A+5 * 1) #[.int .u8 ((toI L).getD 5 0)]∧Yields0 Tryz.prog w [] (convert 5 3 (.int .u8 ((toI L).getD 5 0))) (.int .i64 k2)∧Yields0 Tryz.prog w [] (Instr.indexAt 28 k5 (.int .i64 7)) (.pointer (some ⟨blkA A,offA A+7 * 1,none⟩))∧Reads0 w [] (blkA A) (offA A+7 * 1) #[.int .u8 ((toI L).getD 7 0)]∧Yields0 Tryz.prog w [] (convert 5 3 (.int .u8 ((toI L).getD 7 0))) (.int .i64 k4)∧((decide (k1 ≥ 1))=true→((decide (k1≤8))=true→((decide (k2 ≥ 1))=true→((decide (k2≤8))=true→((decide (k4≤64))=true→Gives Tryz.prog w [] 26 #[.int .i64 k1,.int .i64 k2,.int .i64 k4] (.int .i64 k3)∧((decide (k6=k3))=true→((.bool true:Value) = .bool (decide (MayBe L))))∧((decide (k6=k3))=false→k0))∧((decide (k4≤64))=false→k0))∧((decide (k2≤8))=false→k0))∧((decide (k2 ≥ 1))=false→k0))∧((decide (k1≤8))=false→k0))∧((decide (k1 ≥ 1))=false→k0)))) Tryz.func30 (by kernel_rfl)
 (⟨fun h1=>have h1:((toI L).length:Int) < 36:=(by simpa using h1)
(by rw [decide_eq_false (fun hm=>by obtain ⟨m1,_,m2,m3,m4,m5,m6,m7⟩:=hm;omega)]),
 fun h1=>have h1:¬ ((toI L).length:Int) < 36:=(by simpa using h1)
⟨(cut_4 Tryz.underlying28 info_u8 (by omega) (by omega)),⟨(to_str Tryz.underlying28 Tryz.underlying5 Tryz.underlying9 (hx.take 4)),⟨(str_neq _ _),fun h2=>(by rw [decide_eq_false (fun hm=>by have h:=(mark_iff hb8).2 hm.2.1;have:=h2;rw [h] at this;simp at this)]),
 fun h2=>⟨(low_index Tryz.underlying28 info_u8 byte_cells (Nat.le_refl _) hE rfl (by show (4:Nat) < _;omega)),(low_reads byte_cells (Nat.le_refl _) hE (at_getD (by show (4:Nat) < _;omega))),⟨(conv_int Tryz.underlying5 Tryz.underlying3 (by omega) hb8),⟨(low_index Tryz.underlying28 info_u8 byte_cells (Nat.le_refl _) hE rfl (by show (5:Nat) < _;omega)),(low_reads byte_cells (Nat.le_refl _) hE (at_getD (by show (5:Nat) < _;omega))),⟨(conv_int Tryz.underlying5 Tryz.underlying3 (by omega) hb8),⟨(low_index Tryz.underlying28 info_u8 byte_cells (Nat.le_refl _) hE rfl (by show (7:Nat) < _;omega)),(low_reads byte_cells (Nat.le_refl _) hE (at_getD (by show (7:Nat) < _;omega))),⟨(conv_int Tryz.underlying5 Tryz.underlying3 (by omega) hb8),⟨fun h3=>have h3:¬ (((L.getD 4 0):Nat):Int) < 1:=(by simpa using h3)
⟨fun h4=>have h4:¬ 8 < (((L.getD 4 0):Nat):Int):=(by simpa using h4)
⟨fun h5=>have h5:¬ (((L.getD 5 0):Nat):Int) < 1:=(by simpa using h5)
⟨fun h6=>have h6:¬ 8 < (((L.getD 5 0):Nat):Int):=(by simpa using h6)
⟨fun h7=>have h7:¬ 64 < (((L.getD 7 0):Nat):Int):=(by simpa using h7)
⟨(g_size3 (by omega) (by omega) (by omega)),⟨fun h8=>have h8:((toI L).length:Int)=((szN (L.getD 4 0) (L.getD 5 0) (L.getD 7 0):Nat):Int):=(by simpa using h8)
(by rw [decide_eq_true ⟨by omega,(mark_iff hb8).1 (by simpa using h2),by omega,by omega,by omega,by omega,by omega,by omega⟩]),
 fun h8=>have h8:¬ ((toI L).length:Int)=((szN (L.getD 4 0) (L.getD 5 0) (L.getD 7 0):Nat):Int):=(by simpa using h8)
(by rw [decide_eq_false (fun hm=>by obtain ⟨m1,_,m2,m3,m4,m5,m6,m7⟩:=hm;omega)])⟩⟩,
 fun h7=>have h7:64 < (((L.getD 7 0):Nat):Int):=(by simpa using h7)
(by rw [decide_eq_false (fun hm=>by obtain ⟨m1,_,m2,m3,m4,m5,m6,m7⟩:=hm;omega)])⟩,
 fun h6=>have h6:8 < (((L.getD 5 0):Nat):Int):=(by simpa using h6)
(by rw [decide_eq_false (fun hm=>by obtain ⟨m1,_,m2,m3,m4,m5,m6,m7⟩:=hm;omega)])⟩,
 fun h5=>have h5:(((L.getD 5 0):Nat):Int) < 1:=(by simpa using h5)
(by rw [decide_eq_false (fun hm=>by obtain ⟨m1,_,m2,m3,m4,m5,m6,m7⟩:=hm;omega)])⟩,
 fun h4=>have h4:8 < (((L.getD 4 0):Nat):Int):=(by simpa using h4)
(by rw [decide_eq_false (fun hm=>by obtain ⟨m1,_,m2,m3,m4,m5,m6,m7⟩:=hm;omega)])⟩,
 fun h3=>have h3:(((L.getD 4 0):Nat):Int) < 1:=(by simpa using h3)
(by rw [decide_eq_false (fun hm=>by obtain ⟨m1,_,m2,m3,m4,m5,m6,m7⟩:=hm;omega)])⟩⟩⟩⟩⟩⟩⟩⟩⟩⟩⟩)
end Go.Proofs.YtbbjlfbemibfcaaGreat.row
end
section
namespace Go.Proofs.YtbbjlfbemibfcaaGreat.row
open Go.RowKit Go.Proofs.YtbbjlfbemibfcaaGreat
set_option maxRecDepth 20000
open Go.Proofs.YtbbjlfbemibfcaaGreat.frame (be be_len be_lt u le4)
open Go.Proofs.YtbbjlfbemibfcaaGreat.book (St right)
open Go.Proofs.YtbbjlfbemibfcaaGreat.order (Or oz)
def txt (L:List Nat):List Nat:=L.take (L.length - 4)
def sm (L:List Nat):List Nat:=L.drop (L.length - 4)
def rdV (L:List Nat):St:=readV (txt L) (L.getD 4 0) (L.getD 5 0) (L.getD 7 0) (L.getD 4 0 * L.getD 5 0)
def zst:St:=⟨0,0,[],[],[],[],false,0,0,0⟩
def zsv:Sv:=⟨none,0,none,0,none,0,none,0⟩
def decV (L:List Nat):St × Int :=
 if MayBe L then (if sm L=le4 (crc.more 0 (txt L)) then (if right (rdV L)=true∧txt L=told (rdV L) then (rdV L,0) else (zst,2)) else (zst,10)) else (zst,2)
theorem toI_len (L:List Nat):(toI L).length=L.length:=by simp [toI]
section
variable {P:Program} {w w0 w2:World} {D:List Fact} {L:List Nat} {gb ob c:Nat}
theorem dec_form (h:¬ MayBe L):decV L=(zst,2):=if_neg h
theorem dec_sum (h:MayBe L) (h2:¬ sm L=le4 (crc.more 0 (txt L))):decV L=(zst,10):=by unfold decV;rw [if_pos h,if_neg h2]
theorem dec_yes (h:MayBe L) (h2:sm L=le4 (crc.more 0 (txt L))) (h3:right (rdV L)=true) (h4:txt L=told (rdV L)):decV L=(rdV L,0):=by unfold decV;rw [if_pos h,if_pos h2,if_pos ⟨h3,h4⟩]
theorem dec_no1 (h:MayBe L) (h2:sm L=le4 (crc.more 0 (txt L))) (h3:right (rdV L)=false):decV L=(zst,2):=by unfold decV;rw [if_pos h,if_pos h2,if_neg (fun hh=>by rw [h3] at hh;exact absurd hh.1 (by decide))]
theorem dec_no2 (h:MayBe L) (h2:sm L=le4 (crc.more 0 (txt L))) (h4:¬ txt L=told (rdV L)):decV L=(zst,2):=by unfold decV;rw [if_pos h,if_pos h2,if_neg (fun hh=>h4 hh.2)]
theorem el_later {α:Type} {R:Rd α} (hR:Keeps R) {size:Nat} {A:Option Addr} {xs:List α} (h:Elems R size w (Lt w.heap.size) A xs) (hb:Below w.heap.size w w2):Elems R size w2 (Lt w2.heap.size) A xs :=
 h.keep hR (below_alike hb) (fun b hl=>Nat.lt_of_lt_of_le hl hb.size)
theorem txt_el (h:Elems (rdInt .u8) 1 w (Lt w.heap.size) (some ⟨gb,ob,none⟩) (toI L)):Elems (rdInt .u8) 1 w (Lt w.heap.size) (some ⟨gb,ob,none⟩) (toI (txt L)):=by
 have e:toI (txt L)=(toI L).take (L.length - 4):=by simp [toI,txt]
 rw [e];exact book.elems_take h _
theorem txt_bys (h:Elems (rdInt .u8) 1 w (Lt w.heap.size) (some ⟨gb,ob,none⟩) (toI L)):Bys w w.heap.size (some ⟨gb,ob,none⟩) (txt L) :=
 BysIn.bys (elems_bys (txt_el h) (elems_wf (txt_el h))) (fun _ h=>h)
theorem sm_bys (hm:MayBe L) (h:Elems (rdInt .u8) 1 w (Lt w.heap.size) (some ⟨gb,ob,none⟩) (toI L)):Bys w w.heap.size (some ⟨gb,ob+(L.length - 4),none⟩) (sm L):=by
 have:=rest_at (p:=L.length - 4) (c:=L.length+1) h (by omega)
 exact BysIn.bys (elems_bys this (elems_wf this)) (fun _ h=>h)
theorem sz_small {a y n:Nat} (ha:a≤8) (hy:y≤8) (hn:n≤64):szN a y n≤10000:=by
 have:a * y≤8 * 8:=Nat.mul_le_mul ha hy
 unfold szN;omega
theorem maybe_small (h:MayBe L):L.length≤10000:=by
 obtain ⟨_,_,_,h1,_,h2,h3,h4⟩:=h
 rw [h4];exact sz_small h1 h2 h3
theorem txt_small (h:MayBe L):(txt L).length≤100000:=by
 have:=maybe_small h
 unfold txt;rw [List.length_take];omega
theorem txt_len (h:MayBe L):(txt L).length=L.length - 4:=by unfold txt;rw [List.length_take];omega
theorem txt_at {i:Nat} (hi:i < L.length - 4):(txt L).getD i 0=L.getD i 0:=by
 unfold txt
 rw [List.getD_eq_getElem?_getD,List.getD_eq_getElem?_getD,List.getElem?_take_of_lt hi]
theorem at1 {T:List Nat} {p:Nat} (hb:∀ b ∈ T,b < 256) (hp:p < T.length):at_ T p 1=((T.getD p 0:Nat):Int):=by
 have e:(T.drop p).take 1=[T.getD p 0]:=by
  rw [List.getD_eq_getElem?_getD,List.getElem?_eq_getElem hp,List.drop_eq_getElem_cons hp];rfl
 have:=getD_lt (i:=p) hb
 unfold at_
 rw [e,IntKind.wrap_i64]
 simp only [num,List.foldl_cons,List.foldl_nil]
 omega
theorem cut_txt {t e:TypeId} {bytes:Nat} {z:Value} (ht:P.underlying t=some (.slice e)) (hinfo:(P.info? e).map (fun i=>(i.zero,i.size,i.bytes))=some (some z,1,bytes)) (hc:L.length≤c) {A:Option Addr} :
  Yields0 P w0 D (Instr.sliceAt t (.slice A (toI L).length c) none (some (.int .i64 ((L.length - 4:Nat):Int))) none) (.slice A (toI (txt L)).length c):=fun w hw ha=>by
 have:=book.slice_upto (P:=P) (A:=A) (n:=(toI L).length) (c:=c) (k:=L.length - 4) ht hinfo (by omega) w
 have e:(toI (txt L)).length=L.length - 4:=by rw [toI_len];unfold txt;rw [List.length_take];omega
 rw [e];exact this
theorem cut_sm {t e:TypeId} {bytes:Nat} {z:Value} (ht:P.underlying t=some (.slice e)) (hinfo:(P.info? e).map (fun i=>(i.zero,i.size,i.bytes))=some (some z,1,bytes)) (h36:36≤L.length) (hc:L.length≤c) :
  Yields0 P w0 D (Instr.sliceAt t (.slice (some ⟨gb,ob,none⟩) (toI L).length c) (some (.int .i64 ((L.length - 4:Nat):Int))) none none) (.slice (some ⟨gb,ob+(L.length - 4),none⟩) (toI (sm L)).length (c - (L.length - 4))):=fun w hw ha=>by
 have h:=book.slice_from (P:=P) (A:=some ⟨gb,ob,none⟩) (n:=(toI L).length) (c:=c) (k:=L.length - 4) ht hinfo (by rw [toI_len];omega) w
 have e1:cutAt (some ⟨gb,ob,none⟩) c (L.length - 4) 1=some ⟨gb,ob+(L.length - 4),none⟩:=by
  have hne:¬ c=L.length - 4:=by omega
  have h1:¬ L.length - 4=0:=by omega
  simp [cutAt,hne,Addr.add,h1]
 have e2:(toI L).length - (L.length - 4)=(toI (sm L)).length:=by rw [toI_len,toI_len];unfold sm;rw [List.length_drop]
 rw [e1,e2] at h
 exact h
theorem rd_fine (h:MayBe L):frame.inR (rdV L).a∧frame.inR (rdV L).y∧frame.inR (rdV L).last∧frame.inR (rdV L).seq∧frame.inR (rdV L).lsn:=by
 obtain ⟨_,_,_,h1,_,h2,_⟩:=h
 exact ⟨by show frame.inR ((L.getD 4 0:Nat):Int);unfold frame.inR;omega,by show frame.inR ((L.getD 5 0:Nat):Int);unfold frame.inR;omega,at_in _ _ _,at_in _ _ _,at_in _ _ _⟩
theorem rd_in {v:Sv} (h:MayBe L) (ho:OwnElems rdOrder 12 w 0 54 (fun _=>False) v.A1 (rdV L).os.length v.c1 (rdV L).os) (hc:OwnElems rdCell 4 w 0 60 (fun _=>False) v.A2 (rdV L).cs.length v.c2 (rdV L).cs) (hl:OwnElems rdExpo 3 w 0 51 (fun _=>False) v.A3 (rdV L).ls.length v.c3 (rdV L).ls) (hk:OwnElems (rdInt .i64) 1 w 0 2 (fun _=>False) v.A4 (rdV L).ps.length v.c4 (rdV L).ps):InS w (Lt w.heap.size) v (rdV L) :=
 book.rows_in ho hc hl hk (rd_fine h)
theorem g_read (hx:Elems (rdInt .u8) 1 w0 (Lt w0.heap.size) (some ⟨gb,ob,none⟩) (toI L)) (hc:L.length≤c) (h:MayBe L):GivesM Tryz.prog w0 D 32 #[.slice (some ⟨gb,ob,none⟩) (toI (txt L)).length c] Sv (fun x=>.agg (stc x (rdV L))) (fun x=>readF x (rdV L)):=fun w hw _=>by
 have hT:=txt_el (el_later (keeps_int _) hx hw)
 have hb:=toI_lt hT
 have hl:=txt_len h
 obtain ⟨h36,_,h1,h2,h3,h4,h5,h6⟩:=h
 have h7:L.getD 4 0 * L.getD 5 0≤8 * 8:=Nat.mul_le_mul h2 h4
 refine l_read (txt L) gb ob c (L.getD 4 0) (L.getD 5 0) (L.getD 7 0) (L.getD 4 0 * L.getD 5 0) w hT (by omega) ?_ ?_ ?_ ⟨⟨h1,h2⟩,⟨h3,h4⟩,h5⟩ ⟨rfl,by omega⟩ ?_
 ·rw [at1 hb (by omega),txt_at (by omega)]
 ·rw [at1 hb (by omega),txt_at (by omega)]
 ·rw [at1 hb (by omega),txt_at (by omega)]
 ·rw [hl,h6];unfold szN;omega
theorem turns_zst:Turns w D (readF zsv zst):=fun _ _ =>
 ⟨fun f hf=>by
   simp only [readF,List.mem_cons,List.not_mem_nil,or_false] at hf
   rcases hf with rfl | rfl | rfl | rfl
   ·exact ownF_stable keeps_order
   ·exact ownF_stable keeps_cell
   ·exact ownF_stable keeps_expo
   ·exact ownF_stable (keeps_int _),
  by
   have e:∀ f ∈ readF zsv zst,∀ k,¬ f.S k:=fun f hf k hk=>by
    simp only [readF,List.mem_cons,List.not_mem_nil,or_false] at hf
    rcases hf with rfl | rfl | rfl | rfl<;>simp [ownF,zsv,Value.ownBlock] at hk
   exact List.Pairwise.imp_of_mem (fun {f _} hf _ _ k hk=>absurd hk (e f hf k)) (List.pairwise_of_forall (R:=fun _ _=>True) (fun _ _=>trivial)),
  fun f hf k hk=>by
   simp only [readF,List.mem_cons,List.not_mem_nil,or_false] at hf
   rcases hf with rfl | rfl | rfl | rfl<;>simp [ownF,zsv,Value.ownBlock] at hk,
  fun w _ _=>⟨OwnElems.nil,OwnElems.nil,OwnElems.nil,OwnElems.nil,trivial⟩⟩
end
theorem l_Decode (L:List Nat) (gb ob c:Nat)  (w:World) (hx:Elems (rdInt .u8) 1 w (Lt w.heap.size) (some ⟨gb,ob,none⟩) (toI L)) (hc:L.length≤c) (hlm:L.length≤9223372036854775807):Calls Tryz.prog 14 #[.slice (some ⟨gb,ob,none⟩) (toI L).length c] w fun e w' => ∃ x:Sv,e = .returned (.tuple #[.agg (stc x (decV L).1),.int .i64 (decV L).2])∧Below w.heap.size w w'∧News (fun _=>False) w.heap.size (readF x (decV L).1) w' :=
 have hl:=toI_len L
 calls_mem (fn:=Tryz.f14) (r:=fun (x:Sv)=>.tuple #[.agg (stc x (decV L).1),.int .i64 (decV L).2]) (fs:=fun (x:Sv)=>readF x (decV L).1) (t:=let k0:=toI (le4 (crc.more 0 (txt L)));let k1:=toI (told (rdV L));let k2:Value:=.int .i64 ((L.length - 4:Nat):Int); .cs (decide (MayBe L)) (.o [] (.e k2 (.x (.slice (some ⟨gb,ob,none⟩) ((toI (txt L)).length) c) (.e k2 (.x (.slice (some ⟨gb,ob+(L.length - 4),none⟩) ((toI (sm L)).length) (c - (L.length - 4))) (.cm (Option Addr × Nat) (fun x=>.slice x.1 (k0.length) x.2) (fun x=>[ownF (rdInt .u8) 1 5 x.1 (k0.length) x.2 k0]) (fun x2=>.cs (decide (sm L=le4 (crc.more 0 (txt L)))) (.cm (Sv) (fun x=>.agg (stc x (rdV L))) (fun x=>[oO x.A1 ((rdV L).os.length) x.c1 ((rdV L).os),oC x.A2 ((rdV L).cs.length) x.c2 ((rdV L).cs),oX x.A3 ((rdV L).ls.length) x.c3 ((rdV L).ls),oI x.A4 ((rdV L).ps.length) x.c4 ((rdV L).ps)]) (fun x4=>.cs (right (rdV L)) (.k (.cm (Option Addr × Nat) (fun x=>.slice x.1 (k1.length) x.2) (fun x=>[ownF (rdInt .u8) 1 5 x.1 (k1.length) x.2 k1]) (fun x6=>.cs (decide (txt L=told (rdV L))) .z .z))) (.k .z))) .z))))))) .z) (X :=
 let k0:=toI (le4 (crc.more 0 (txt L)));let k1:Array Value:=#[.int .i64 0,.int .i64 0,.slice none 0 0,.slice none 0 0,.slice none 0 0,.slice none 0 0,.bool false,.int .i64 0,.int .i64 0,.int .i64 0];let k2:=toI (told (rdV L));let k3:Option Addr:=some ⟨gb,ob,none⟩;let k4:=(rdV L).os.length;let k5:=(rdV L).cs.length;let k6:=(rdV L).ls.length;let k7:=(rdV L).ps.length;let k8:=decide (sm L=le4 (crc.more 0 (txt L)));let k9:=((L.length - 4:Nat):Int);let k10:=(.tuple #[.agg k1,.int .i64 2]:Value);let k11:=(.int .i64 (IntKind.i64.wrap (((toI L).length:Int) - 4)):Value);let k12:=(toI (txt L)).length;let k13:=decide (txt L=told (rdV L));let k14:=L.length - 4;let k15:=decide (MayBe L);let k16:=(toI L).length;let k17:=right (rdV L); ∀ g0:Nat,Gives Tryz.prog w [] 30 #[.slice k3 k16 c] (.bool k15)∧(k15=true→k11 = .int .i64 k9∧Yields0 Tryz.prog w [] (Instr.sliceAt 28 (.slice k3 k16 c) none (some (.int .i64 k9)) none) (.slice k3 k12 c)∧k11 = .int .i64 k9∧Yields0 Tryz.prog w [] (Instr.sliceAt 28 (.slice k3 k16 c) (some (.int .i64 k9)) none none) (.slice (some ⟨gb,ob+k14,none⟩) ((toI (sm L)).length) (c - k14))∧GivesM Tryz.prog w [] 22 #[.slice k3 k12 c] (Option Addr × Nat) (fun x=>.slice x.1 (k0.length) x.2) (fun x=>[ownF (rdInt .u8) 1 5 x.1 (k0.length) x.2 k0])∧∀ x2:Option Addr × Nat,let k18:List Fact:=[ownF (rdInt .u8) 1 5 x2.1 (k0.length) x2.2 k0];Gives Tryz.prog w k18 31 #[.slice (some ⟨gb,ob+k14,none⟩) ((toI (sm L)).length) (c - k14),.slice x2.1 (k0.length) x2.2] (.bool k8)∧(k8=true→GivesM Tryz.prog w k18 32 #[.slice k3 k12 c] (Sv) (fun x=>.agg (stc x (rdV L))) (fun x=>[oO x.A1 k4 x.c1 ((rdV L).os),oC x.A2 k5 x.c2 ((rdV L).cs),oX x.A3 k6 x.c3 ((rdV L).ls),oI x.A4 k7 x.c4 ((rdV L).ps)])∧∀ x4:Sv,let k19:=stc x4 (rdV L);  ∀ g1:Nat,Gives Tryz.prog w [oO x4.A1 k4 x4.c1 ((rdV L).os),oC x4.A2 k5 x4.c2 ((rdV L).cs),oX x4.A3 k6 x4.c3 ((rdV L).ls),oI x4.A4 k7 x4.c4 ((rdV L).ps),ownF (rdInt .u8) 1 5 x2.1 (k0.length) x2.2 k0] 18 #[.agg k19] (.bool k17)∧(k17=true→GivesM Tryz.prog w [oO x4.A1 k4 x4.c1 ((rdV L).os),oC x4.A2 k5 x4.c2 ((rdV L).cs),oX x4.A3 k6 x4.c3 ((rdV L).ls),oI x4.A4 k7 x4.c4 ((rdV L).ps),ownF (rdInt .u8) 1 5 x2.1 (k0.length) x2.2 k0] 21 #[.agg k19] (Option Addr × Nat) (fun x=>.slice x.1 (k2.length) x.2) (fun x=>[ownF (rdInt .u8) 1 5 x.1 (k2.length) x.2 k2])∧∀ x6:Option Addr × Nat,let k20:List Fact:=[ownF (rdInt .u8) 1 5 x6.1 (k2.length) x6.2 k2,oO x4.A1 k4 x4.c1 ((rdV L).os),oC x4.A2 k5 x4.c2 ((rdV L).cs),oX x4.A3 k6 x4.c3 ((rdV L).ls),oI x4.A4 k7 x4.c4 ((rdV L).ps),ownF (rdInt .u8) 1 5 x2.1 (k0.length) x2.2 k0];Gives Tryz.prog w k20 31 #[.slice k3 k12 c,.slice x6.1 (k2.length) x6.2] (.bool k13)∧(k13=true→∃ x:Sv,(.tuple #[.agg k19,.int .i64 0]:Value) = .tuple #[.agg (stc x (decV L).1),.int .i64 (decV L).2]∧Turns w k20 (readF x (decV L).1))∧(k13=false→∃ x:Sv,k10 = .tuple #[.agg (stc x (decV L).1),.int .i64 (decV L).2]∧Turns w k20 (readF x (decV L).1)))∧(k17=false→∃ x:Sv,k10 = .tuple #[.agg (stc x (decV L).1),.int .i64 (decV L).2]∧Turns w [oO x4.A1 k4 x4.c1 ((rdV L).os),oC x4.A2 k5 x4.c2 ((rdV L).cs),oX x4.A3 k6 x4.c3 ((rdV L).ls),oI x4.A4 k7 x4.c4 ((rdV L).ps),ownF (rdInt .u8) 1 5 x2.1 (k0.length) x2.2 k0] (readF x (decV L).1)))∧(k8=false→∃ x:Sv,(.tuple #[.agg k1,.int .i64 10]:Value) = .tuple #[.agg (stc x (decV L).1),.int .i64 (decV L).2]∧Turns w k18 (readF x (decV L).1)))∧(k15=false→∃ x:Sv,k10 = .tuple #[.agg (stc x (decV L).1),.int .i64 (decV L).2]∧Turns w [] (readF x (decV L).1))) Tryz.func14 (by kernel_rfl)
 (fun g0=>⟨(fun w2 hw _=>l_mayBe _ _ _ w2 (el_later (keeps_int _) hx hw) hc),fun h1=>⟨wrap_is (by rw [toI_len];have:=((of_decide_eq_true h1)).1;omega) (by have:=((of_decide_eq_true h1)).1;omega) (by have:=((of_decide_eq_true h1)).2.2;unfold szN at this;have:=hlm;omega),⟨(cut_txt Tryz.underlying28 info_u8 hc),⟨wrap_is (by rw [toI_len];have:=((of_decide_eq_true h1)).1;omega) (by have:=((of_decide_eq_true h1)).1;omega) (by have:=((of_decide_eq_true h1)).2.2;unfold szN at this;have:=hlm;omega),⟨(cut_sm Tryz.underlying28 info_u8 ((of_decide_eq_true h1)).1 hc),⟨(g_sumof (fun w2 hw _=>txt_bys (el_later (keeps_int _) hx hw)) (txt_small (of_decide_eq_true h1))),fun x2=>⟨(fun w2 hw ha=>l_Equal _ _ _ _ (sm L) _ w2 (sm_bys (of_decide_eq_true h1) (el_later (keeps_int _) hx hw)) (own_bys (w0:=w) (j:=0) rfl w2 hw ha)),fun h3=>⟨(g_read hx hc (of_decide_eq_true h1)),fun x4=>fun g1=>⟨(book.i_right (fun w2 _ ha=>rd_in (of_decide_eq_true h1) (row_at (j:=0) rfl w2 ha) (row_at (j:=1) rfl w2 ha) (row_at (j:=2) rfl w2 ha) (row_at (j:=3) rfl w2 ha))),fun h5=>⟨(g_told (fun w2 _ ha=>rd_in (of_decide_eq_true h1) (row_at (j:=0) rfl w2 ha) (row_at (j:=1) rfl w2 ha) (row_at (j:=2) rfl w2 ha) (row_at (j:=3) rfl w2 ha)) (lens_of h5)),fun x6=>⟨(fun w2 hw ha=>l_Equal _ _ _ _ (txt L) _ w2 (txt_bys (el_later (keeps_int _) hx hw)) (own_bys (w0:=w) (j:=0) rfl w2 hw ha)),fun h7=>⟨x4,(by rw [dec_yes (of_decide_eq_true h1) (of_decide_eq_true h3) h5 (of_decide_eq_true h7)]<;>rfl),(by rw [dec_yes (of_decide_eq_true h1) (of_decide_eq_true h3) h5 (of_decide_eq_true h7)];exact (turns_idx [1,2,3,4] (by decide) rfl))⟩,
 fun h7=>⟨zsv,(by rw [dec_no2 (of_decide_eq_true h1) (of_decide_eq_true h3) (of_decide_eq_false h7)]<;>rfl),(by rw [dec_no2 (of_decide_eq_true h1) (of_decide_eq_true h3) (of_decide_eq_false h7)];exact turns_zst)⟩⟩⟩,
 fun h5=>⟨zsv,(by rw [dec_no1 (of_decide_eq_true h1) (of_decide_eq_true h3) h5]<;>rfl),(by rw [dec_no1 (of_decide_eq_true h1) (of_decide_eq_true h3) h5];exact turns_zst)⟩⟩⟩,
 fun h3=>⟨zsv,(by rw [dec_sum (of_decide_eq_true h1) (of_decide_eq_false h3)]<;>rfl),(by rw [dec_sum (of_decide_eq_true h1) (of_decide_eq_false h3)];exact turns_zst)⟩⟩⟩⟩⟩⟩⟩,
 fun h1=>⟨zsv,(by rw [dec_form (of_decide_eq_false h1)]<;>rfl),(by rw [dec_form (of_decide_eq_false h1)];exact turns_zst)⟩⟩)
theorem l_Decode_no (L:List Nat) (A:Option Addr) (c:Nat)  (w:World) (hx:Elems (rdInt .u8) 1 w (Lt w.heap.size) A (toI L)) (hc:L.length≤c) (hlm:L.length≤9223372036854775807) (hno:¬ MayBe L):Calls Tryz.prog 14 #[.slice A (toI L).length c] w fun e w' => ∃ x:Sv,e = .returned (.tuple #[.agg (stc x (decV L).1),.int .i64 (decV L).2])∧Below w.heap.size w w'∧News (fun _=>False) w.heap.size (readF x (decV L).1) w' :=
 have hl:=toI_len L
 calls_mem (fn:=Tryz.f14) (r:=fun (x:Sv)=>.tuple #[.agg (stc x (decV L).1),.int .i64 (decV L).2]) (fs:=fun (x:Sv)=>readF x (decV L).1) (t:=.c (.bool false) .z) (X :=
∀ g0:Nat,Gives Tryz.prog w [] 30 #[.slice A ((toI L).length) c] (.bool false)∧∃ x:Sv,(.tuple #[.agg #[.int .i64 0,.int .i64 0,.slice none 0 0,.slice none 0 0,.slice none 0 0,.slice none 0 0,.bool false,.int .i64 0,.int .i64 0,.int .i64 0],.int .i64 2]:Value) = .tuple #[.agg (stc x (decV L).1),.int .i64 (decV L).2]∧Turns w [] (readF x (decV L).1)) Tryz.func14 (by kernel_rfl)
 (fun g0=>⟨(fun w2 hw _=>by have:=l_mayBe A c L w2 (el_later (keeps_int _) hx hw) hc;rw [decide_eq_false hno] at this;exact this),⟨zsv,(by rw [dec_form hno]<;>rfl),(by rw [dec_form hno];exact turns_zst)⟩⟩)
end Go.Proofs.YtbbjlfbemibfcaaGreat.row
end
