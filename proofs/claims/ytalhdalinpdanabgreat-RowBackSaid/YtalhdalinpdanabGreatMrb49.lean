/-
  RowM
-/
import Derived.Test.YtalhdalinpdanabGreatMrb46
import Derived.Test.YtalhdalinpdanabGreatMrb03
set_option linter.unusedVariables false
set_option linter.unusedSimpArgs false
namespace Go.Proofs.YtalhdalinpdanabGreat.row
open Go.RowKit Go.Proofs.YtalhdalinpdanabGreat
set_option maxRecDepth 20000
open Go.Proofs.YtalhdalinpdanabGreat.frame (be be_len be_lt u le4)
open Go.Proofs.YtalhdalinpdanabGreat.book (St right)
open Go.Proofs.YtalhdalinpdanabGreat.order (Or oz)
def szN (a y n:Nat):Nat:=32+n * 61+a * y * 32+a * 8+4
def MayBe (L:List Nat):Prop:=36≤L.length∧L.take 4=[115,110,97,102]∧1≤L.getD 4 0∧L.getD 4 0≤8∧1≤L.getD 5 0∧L.getD 5 0≤8∧L.getD 7 0≤64∧L.length=szN (L.getD 4 0) (L.getD 5 0) (L.getD 7 0)
instance (L:List Nat):Decidable (MayBe L):=by unfold MayBe;infer_instance
section
variable {P:Program} {w0:World} {D:List Fact} {l L M:List Nat} {i k n c:Nat} {A:Option Addr}
theorem to_str {src e dst:TypeId} (hs:P.underlying src=some (.slice e)) (he:P.underlying e=some (.int .u8)) (hd:P.underlying dst=some .string) (h:Bys w0 w0.heap.size A L) :
  Yields0 P w0 D (convert src dst (.slice A (toI L).length c)) (.string (strB L)):=fun w hw _=>run_bys_string (h.below hw) (by simp [toI]) src e dst hs he hd
theorem conv_int {src dst:TypeId} (hs:P.underlying src=some (.int .u8)) (hd:P.underlying dst=some (.int .i64)) (hi:i < l.length) (h:∀ b ∈ l,b < 256) :
  Yields0 P w0 D (convert src dst (.int .u8 ((toI l).getD i 0))) (.int .i64 ((l.getD i 0:Nat):Int)):=fun w _ _=>by
 have hk' : P.intKind dst = .i64:=by simp [Program.intKind,hd]
 have e:(toI l).getD i 0=((l.getD i 0:Nat):Int):=by
  rw [List.getD_eq_getElem?_getD,List.getD_eq_getElem?_getD];unfold toI;rw [List.getElem?_map,List.getElem?_eq_getElem hi];rfl
 have:=getD_lt (i:=i) h
 rw [run_convert_int w src dst .u8 _ (by rw [hs];rfl) (by rw [hk'];exact hd),hk',e]
 exact congrArg (Result.ok · w) (wrap_is rfl (by omega) (by omega))
theorem cut_4 {t e:TypeId} {bytes:Nat} {z:Value} (ht:P.underlying t=some (.slice e)) (hinfo:(P.info? e).map (fun i=>(i.zero,i.size,i.bytes))=some (some z,1,bytes)) (h:4≤L.length) (hc:4≤c) :
  Yields0 P w0 D (Instr.sliceAt t (.slice A (toI L).length c) none (some (.int .i64 4)) none) (.slice A (toI (L.take 4)).length c):=fun w hw ha=>by
 have:=book.slice_upto (P:=P) (A:=A) (n:=(toI L).length) (c:=c) (k:=4) ht hinfo hc w
 have e:(toI (L.take 4)).length=4:=by simp [toI];omega
 rw [e];exact this
theorem list_eq2 {a b:ByteArray} : (a.toList == b.toList)=decide (a=b):=by
 rw [Bool.eq_iff_iff,beq_iff_eq,decide_eq_true_eq,ByteArray.toList_eq,ByteArray.toList_eq]
 constructor
 ·intro h
  obtain ⟨⟨x⟩⟩:=a
  obtain ⟨⟨y⟩⟩:=b
  simp at h
  rw [h]
 ·intro h;rw [h]
theorem str_eql {T:TypeId} {a b:ByteArray} (ox oy:Operand) :
  Yields0 P w0 D (do eqGuard .eql T ox oy (.string a) (.string b);Go.binOp .eql T (.string a) (.string b)) (.bool (decide (a=b))):=by
 intro w _ _
 rw [← list_eq2]
 simp [eqGuard,Go.binOp,Sem.run_bind,Result.andThen_ok,Op.stringOp]
theorem str_neq {T:TypeId} {a b:ByteArray} (ox oy:Operand) :
  Yields0 P w0 D (do eqGuard .neq T ox oy (.string a) (.string b);Go.binOp .neq T (.string a) (.string b)) (.bool (!decide (a=b))):=by
 intro w _ _
 rw [← list_eq2]
 simp [eqGuard,Go.binOp,Sem.run_bind,Result.andThen_ok,Op.stringOp]
theorem strB_inj {a b:List Nat} (ha:∀ x ∈ a,x < 256) (hb:∀ x ∈ b,x < 256):strB a=strB b ↔ a=b:=by
 rw [← strB_eq ha hb]
 constructor
 ·intro h;rw [h]
 ·intro h
  have:=list_eq2 (a:=strB a) (b:=strB b)
  rw [h] at this
  simpa using this.symm
theorem mark_str:strB [115,110,97,102]=⟨#[115,110,97,102]⟩:=by decide +kernel
theorem mark_iff (h:∀ b ∈ L,b < 256):strB (L.take 4)=⟨#[115,110,97,102]⟩ ↔ L.take 4=[115,110,97,102]:=by
 rw [← mark_str]
 exact strB_inj (fun x hx=>h x (List.mem_of_mem_take hx)) (by decide)
theorem g_size3 {a y n:Nat} (ha:a≤8) (hy:y≤8) (hn:n≤64):Gives Tryz.prog w0 D 26 #[.int .i64 (a:Int),.int .i64 (y:Int),.int .i64 (n:Int)] (.int .i64 ((szN a y n:Nat):Int)):=fun w _ _=>l_size a y n w ha hy hn
end
theorem l_Equal (A A2:Option Addr) (c c2:Nat) (L M:List Nat)  (w:World) (hx:Bys w w.heap.size A L) (hy:Bys w w.heap.size A2 M):Calls Tryz.prog 31 #[.slice A (toI L).length c,.slice A2 (toI M).length c2] w fun e w'=>e = .returned (.bool (decide (L=M)))∧Below w.heap.size w w' :=
 calls_by (fn:=Tryz.f31) (r:=.bool (decide (L=M))) (t:=.x (.string (strB L)) (.x (.string (strB M)) (.xs (decide (strB L=strB M)) .z .z))) (X :=
 let k0:=decide (strB L=strB M);let k1:Value:=.string (strB L);let k2:Value:=.string (strB M);Yields0 Tryz.prog w [] (convert 28 9 (.slice A ((toI L).length) c)) k1∧Yields0 Tryz.prog w [] (convert 28 9 (.slice A2 ((toI M).length) c2)) k2∧Yields0 Tryz.prog w [] (do eqGuard BinOp.eql 9 (.tmp 6) (.tmp 8) k1 k2;Go.binOp BinOp.eql 9 k1 k2) (.bool k0)∧(k0=true→((.bool true:Value) = .bool (decide (L=M))))∧(k0=false→((.bool false:Value) = .bool (decide (L=M))))) Tryz.func31 (by kernel_rfl)
 (⟨(to_str Tryz.underlying28 Tryz.underlying5 Tryz.underlying9 hx),⟨(to_str Tryz.underlying28 Tryz.underlying5 Tryz.underlying9 hy),⟨(str_eql _ _),fun h1=>(by rw [show decide (L=M)=decide (strB L=strB M) from decide_eq_decide.2 (strB_inj hx.lt hy.lt).symm,h1]),
 fun h1=>(by rw [show decide (L=M)=decide (strB L=strB M) from decide_eq_decide.2 (strB_inj hx.lt hy.lt).symm,h1])⟩⟩⟩)
theorem l_mayBe (A:Option Addr) (c:Nat) (L:List Nat)  (w:World) (hE:Elems (rdInt .u8) 1 w (Lt w.heap.size) A (toI L)) (hc:L.length≤c):Calls Tryz.prog 30 #[.slice A (toI L).length c] w fun e w'=>e = .returned (.bool (decide (MayBe L)))∧Below w.heap.size w w' :=
 have hdl:(toI L).length=L.length:=by simp [toI]
 have hb8:∀ b ∈ L,b < 256:=toI_lt hE
 have hx:Bys w w.heap.size A L:=BysIn.bys (elems_bys hE (elems_wf hE)) (fun _ h=>h)
 calls_by (fn:=Tryz.f30) (r:=.bool (decide (MayBe L))) (t:=.s (.k .z) (.k (.x (.slice A ((toI (L.take 4)).length) c) (.x (.string (strB (L.take 4))) (.xs (!decide (strB (L.take 4)=⟨#[115,110,97,102]⟩)) .z (.o [] (.p (blkA A) (offA A+4 * 1) #[.int .u8 ((toI L).getD 4 0)] (.x (.int .i64 (((L.getD 4 0):Nat):Int)) (.p (blkA A) (offA A+5 * 1) #[.int .u8 ((toI L).getD 5 0)] (.x (.int .i64 (((L.getD 5 0):Nat):Int)) (.p (blkA A) (offA A+7 * 1) #[.int .u8 ((toI L).getD 7 0)] (.x (.int .i64 (((L.getD 7 0):Nat):Int)) (.s (.k (.s (.k (.s (.k (.s (.k (.s (.k (.c (.int .i64 ((szN (L.getD 4 0) (L.getD 5 0) (L.getD 7 0):Nat):Int)) (.s .z .z))) (.k .z))) (.k (.k .z)))) (.k (.k (.k .z))))) (.k (.k (.k (.k .z)))))) (.k (.k (.k (.k (.k .z)))))))))))))))))) (X :=
 let k0:=(.bool false:Value) = .bool (decide (MayBe L));let k1:=(((L.getD 4 0):Nat):Int);let k2:=(((L.getD 5 0):Nat):Int);let k3:=((szN (L.getD 4 0) (L.getD 5 0) (L.getD 7 0):Nat):Int);let k4:=(((L.getD 7 0):Nat):Int);let k5:Value:=.slice A ((toI L).length) c;let k6:=((toI L).length:Int);let k7:Value:=.string ⟨#[115,110,97,102]⟩;let k8:Value:=.string (strB (L.take 4));let k9:Value:=.slice A ((toI (L.take 4)).length) c;((decide (k6 < 36))=true→k0)∧((decide (k6 < 36))=false→Yields0 Tryz.prog w [] (Instr.sliceAt 28 k5 none (some (.int .i64 4)) none) k9∧Yields0 Tryz.prog w [] (convert 28 9 k9) k8∧Yields0 Tryz.prog w [] (do eqGuard BinOp.neq 9 (.tmp 12) (.const k7) k8 k7;Go.binOp BinOp.neq 9 k8 k7) (.bool (!decide (strB (L.take 4)=⟨#[115,110,97,102]⟩)))∧((!decide (strB (L.take 4)=⟨#[115,110,97,102]⟩))=true→k0)∧((!decide (strB (L.take 4)=⟨#[115,110,97,102]⟩))=false→Yields0 Tryz.prog w [] (Instr.indexAt 28 k5 (.int .i64 4)) (.pointer (some ⟨blkA A,offA A+4 * 1,none⟩))∧Reads0 w [] (blkA A) (offA A+4 * 1) #[.int .u8 ((toI L).getD 4 0)]∧Yields0 Tryz.prog w [] (convert 5 3 (.int .u8 ((toI L).getD 4 0))) (.int .i64 k1)∧Yields0 Tryz.prog w [] (Instr.indexAt 28 k5 (.int .i64 5)) (.pointer (some ⟨blkA A,offA A+5 * 1,none⟩))∧Reads0 w [] (blkA A) (offA A+5 * 1) #[.int .u8 ((toI L).getD 5 0)]∧Yields0 Tryz.prog w [] (convert 5 3 (.int .u8 ((toI L).getD 5 0))) (.int .i64 k2)∧Yields0 Tryz.prog w [] (Instr.indexAt 28 k5 (.int .i64 7)) (.pointer (some ⟨blkA A,offA A+7 * 1,none⟩))∧Reads0 w [] (blkA A) (offA A+7 * 1) #[.int .u8 ((toI L).getD 7 0)]∧Yields0 Tryz.prog w [] (convert 5 3 (.int .u8 ((toI L).getD 7 0))) (.int .i64 k4)∧((decide (k1 ≥ 1))=true→((decide (k1≤8))=true→((decide (k2 ≥ 1))=true→((decide (k2≤8))=true→((decide (k4≤64))=true→Gives Tryz.prog w [] 26 #[.int .i64 k1,.int .i64 k2,.int .i64 k4] (.int .i64 k3)∧((decide (k6=k3))=true→((.bool true:Value) = .bool (decide (MayBe L))))∧((decide (k6=k3))=false→k0))∧((decide (k4≤64))=false→k0))∧((decide (k2≤8))=false→k0))∧((decide (k2 ≥ 1))=false→k0))∧((decide (k1≤8))=false→k0))∧((decide (k1 ≥ 1))=false→k0)))) Tryz.func30 (by kernel_rfl)
 (⟨fun h1=>have h1:((toI L).length:Int) < 36:=(by simpa using h1)
(by rw [decide_eq_false (fun hm=>by obtain ⟨m1,_,m2,m3,m4,m5,m6,m7⟩:=hm;omega)]),
 fun h1=>have h1:¬ ((toI L).length:Int) < 36:=(by simpa using h1)
⟨(cut_4 Tryz.underlying28 info_u8 (by omega) (by omega)),⟨(to_str Tryz.underlying28 Tryz.underlying5 Tryz.underlying9 (hx.take 4)),⟨(str_neq _ _),fun h2=>(by rw [decide_eq_false (fun hm=>by have h:=(mark_iff hb8).2 hm.2.1;have:=h2;rw [h] at this;simp at this)]),
 fun h2=>⟨(low_index Tryz.underlying28 info_u8 byte_cells (Nat.le_refl _) hE rfl (by show (4:Nat) < _;omega)),(low_reads byte_cells (Nat.le_refl _) hE (at_getD (by show (4:Nat) < _;omega))),⟨(conv_int Tryz.underlying5 Tryz.underlying3 (by omega) hb8),⟨(low_index Tryz.underlying28 info_u8 byte_cells (Nat.le_refl _) hE rfl (by show (5:Nat) < _;omega)),(low_reads byte_cells (Nat.le_refl _) hE (at_getD (by show (5:Nat) < _;omega))),⟨(conv_int Tryz.underlying5 Tryz.underlying3 (by omega) hb8),⟨(low_index Tryz.underlying28 info_u8 byte_cells (Nat.le_refl _) hE rfl (by show (7:Nat) < _;omega)),(low_reads byte_cells (Nat.le_refl _) hE (at_getD (by show (7:Nat) < _;omega))),⟨(conv_int Tryz.underlying5 Tryz.underlying3 (by omega) hb8),⟨fun h3=>have h3:¬ (((L.getD 4 0):Nat):Int) < 1:=(by simpa using h3)
⟨fun h4=>have h4:¬ 8 < (((L.getD 4 0):Nat):Int):=(by simpa using h4)
⟨fun h5=>have h5:¬ (((L.getD 5 0):Nat):Int) < 1:=(by simpa using h5)
⟨fun h6=>have h6:¬ 8 < (((L.getD 5 0):Nat):Int):=(by simpa using h6)
⟨fun h7=>have h7:¬ 64 < (((L.getD 7 0):Nat):Int):=(by simpa using h7)
⟨(g_size3 (by omega) (by omega) (by omega)),⟨fun h8=>have h8:((toI L).length:Int)=((szN (L.getD 4 0) (L.getD 5 0) (L.getD 7 0):Nat):Int):=(by simpa using h8)
(by rw [decide_eq_true ⟨by omega,(mark_iff hb8).1 (by simpa using h2),by omega,by omega,by omega,by omega,by omega,by omega⟩]),
 fun h8=>have h8:¬ ((toI L).length:Int)=((szN (L.getD 4 0) (L.getD 5 0) (L.getD 7 0):Nat):Int):=(by simpa using h8)
(by rw [decide_eq_false (fun hm=>by obtain ⟨m1,_,m2,m3,m4,m5,m6,m7⟩:=hm;omega)])⟩⟩,
 fun h7=>have h7:64 < (((L.getD 7 0):Nat):Int):=(by simpa using h7)
(by rw [decide_eq_false (fun hm=>by obtain ⟨m1,_,m2,m3,m4,m5,m6,m7⟩:=hm;omega)])⟩,
 fun h6=>have h6:8 < (((L.getD 5 0):Nat):Int):=(by simpa using h6)
(by rw [decide_eq_false (fun hm=>by obtain ⟨m1,_,m2,m3,m4,m5,m6,m7⟩:=hm;omega)])⟩,
 fun h5=>have h5:(((L.getD 5 0):Nat):Int) < 1:=(by simpa using h5)
(by rw [decide_eq_false (fun hm=>by obtain ⟨m1,_,m2,m3,m4,m5,m6,m7⟩:=hm;omega)])⟩,
 fun h4=>have h4:8 < (((L.getD 4 0):Nat):Int):=(by simpa using h4)
(by rw [decide_eq_false (fun hm=>by obtain ⟨m1,_,m2,m3,m4,m5,m6,m7⟩:=hm;omega)])⟩,
 fun h3=>have h3:(((L.getD 4 0):Nat):Int) < 1:=(by simpa using h3)
(by rw [decide_eq_false (fun hm=>by obtain ⟨m1,_,m2,m3,m4,m5,m6,m7⟩:=hm;omega)])⟩⟩⟩⟩⟩⟩⟩⟩⟩⟩⟩)
end Go.Proofs.YtalhdalinpdanabGreat.row
