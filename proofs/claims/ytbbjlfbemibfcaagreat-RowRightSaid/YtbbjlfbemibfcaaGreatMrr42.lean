/-
  z6m, z6n
-/
import Derived.Test.YtbbjlfbemibfcaaGreatMrr39
import Derived.Test.YtbbjlfbemibfcaaGreatMrr03
import Derived.Test.YtbbjlfbemibfcaaGreatMrr16
import Derived.Test.YtbbjlfbemibfcaaGreatMrr41
set_option linter.unusedVariables false
set_option linter.unusedSimpArgs false
section
namespace Go.Proofs.YtbbjlfbemibfcaaGreat.row
open Go.RowKit Go.Proofs.YtbbjlfbemibfcaaGreat
set_option maxRecDepth 20000
open Go.Proofs.YtbbjlfbemibfcaaGreat.frame (be zi Me u le4)
open Go.Proofs.YtbbjlfbemibfcaaGreat.book (St right)
open Go.Proofs.YtbbjlfbemibfcaaGreat.order (Or oz)
def Qw (a y n:Nat):Nat:=32+n * 61+a * y * 32+a * 8+4
def Ey (L:List Nat):Prop:=36≤L.length∧L.take 4=[115,110,97,102]∧1≤L.getD 4 0∧L.getD 4 0≤8∧1≤L.getD 5 0∧L.getD 5 0≤8∧L.getD 7 0≤64∧L.length=Qw (L.getD 4 0) (L.getD 5 0) (L.getD 7 0)
instance (L:List Nat):Decidable (Ey L):=by unfold Ey;infer_instance
section
variable {P:Program} {w0:World} {D:List Fact} {l L M:List Nat} {i k n c:Nat} {A:Option Addr}
theorem qtv {src e dst:TypeId} (hs:P.underlying src=some (.slice e)) (he:P.underlying e=some (.int .u8)) (hd:P.underlying dst=some .string) (h:Az w0 w0.heap.size A L) :
  jd P w0 D (convert src dst (.slice A (ak L).length c)) (.string (wo L)):=fun w hw _=>qkf (h.below hw) (by simp [ak]) src e dst hs he hd
theorem qoe {src dst:TypeId} (hs:P.underlying src=some (.int .u8)) (hd:P.underlying dst=some (.int .i64)) (hi:i < l.length) (h:∀ b ∈ l,b < 256) :
  jd P w0 D (convert src dst (.int .u8 ((ak l).getD i 0))) (.int .i64 ((l.getD i 0:Nat):Int)):=fun w _ _=>by
 have hk' : P.intKind dst = .i64:=by simp [Program.intKind,hd]
 have e:(ak l).getD i 0=((l.getD i 0:Nat):Int):=by
  rw [List.getD_eq_getElem?_getD,List.getD_eq_getElem?_getD];unfold ak;rw [List.getElem?_map,List.getElem?_eq_getElem hi];rfl
 have:=getD_lt (i:=i) h
 rw [run_convert_int w src dst .u8 _ (by rw [hs];rfl) (by rw [hk'];exact hd),hk',e]
 exact congrArg (Result.ok · w) (lg rfl (by omega) (by omega))
theorem zaf {t e:TypeId} {bytes:Nat} {z:Value} (ht:P.underlying t=some (.slice e)) (hinfo:(P.info? e).map (fun i=>(i.zero,i.size,i.bytes))=some (some z,1,bytes)) (h:4≤L.length) (hc:4≤c) :
  jd P w0 D (Instr.sliceAt t (.slice A (ak L).length c) none (some (.int .i64 4)) none) (.slice A (ak (L.take 4)).length c):=fun w hw ha=>by
 have:=book.qhf (P:=P) (A:=A) (n:=(ak L).length) (c:=c) (k:=4) ht hinfo hc w
 have e:(ak (L.take 4)).length=4:=by simp [ak];omega
 rw [e];exact this
theorem qof {a b:ByteArray} : (a.toList == b.toList)=decide (a=b):=by
 rw [Bool.eq_iff_iff,beq_iff_eq,decide_eq_true_eq,ByteArray.toList_eq,ByteArray.toList_eq]
 constructor
 ·intro h
  obtain ⟨⟨x⟩⟩:=a
  obtain ⟨⟨y⟩⟩:=b
  simp at h
  rw [h]
 ·intro h;rw [h]
theorem q6p {T:TypeId} {a b:ByteArray} (ox oy:Operand) :
  jd P w0 D (do eqGuard .eql T ox oy (.string a) (.string b);Go.binOp .eql T (.string a) (.string b)) (.bool (decide (a=b))):=by
 intro w _ _
 rw [← qof]
 simp [eqGuard,Go.binOp,Sem.run_bind,Result.andThen_ok,Op.stringOp]
theorem qv0 {T:TypeId} {a b:ByteArray} (ox oy:Operand) :
  jd P w0 D (do eqGuard .neq T ox oy (.string a) (.string b);Go.binOp .neq T (.string a) (.string b)) (.bool (!decide (a=b))):=by
 intro w _ _
 rw [← qof]
 simp [eqGuard,Go.binOp,Sem.run_bind,Result.andThen_ok,Op.stringOp]
theorem qog {a b:List Nat} (ha:∀ x ∈ a,x < 256) (hb:∀ x ∈ b,x < 256):wo a=wo b ↔ a=b:=by
 rw [← q4y ha hb]
 constructor
 ·intro h;rw [h]
 ·intro h
  have:=qof (a:=wo a) (b:=wo b)
  rw [h] at this
  simpa using this.symm
theorem q3b:wo [115,110,97,102]=⟨#[115,110,97,102]⟩:=by decide +kernel
theorem qtw (h:∀ b ∈ L,b < 256):wo (L.take 4)=⟨#[115,110,97,102]⟩ ↔ L.take 4=[115,110,97,102]:=by
 rw [← q3b]
 exact qog (fun x hx=>h x (List.mem_of_mem_take hx)) (by decide)
theorem q6q {a y n:Nat} (ha:a≤8) (hy:y≤8) (hn:n≤64):iq Tryz.prog w0 D 26 #[.int .i64 (a:Int),.int .i64 (y:Int),.int .i64 (n:Int)] (.int .i64 ((Qw a y n:Nat):Int)):=fun w _ _=>qy1 a y n w ha hy hn
end
theorem qv1 (A A2:Option Addr) (c c2:Nat) (L M:List Nat)  (w:World) (hx:Az w w.heap.size A L) (hy:Az w w.heap.size A2 M):Calls Tryz.prog 31 #[.slice A (ak L).length c,.slice A2 (ak M).length c2] w fun e w'=>e = .returned (.bool (decide (L=M)))∧Below w.heap.size w w' :=
 uw (fn:=Tryz.f31) (r:=.bool (decide (L=M))) (t:=.x (.string (wo L)) (.x (.string (wo M)) (.xs (decide (wo L=wo M)) .z .z))) (X :=
 let k0:=decide (wo L=wo M);let k1:Value:=.string (wo L);let k2:Value:=.string (wo M);jd Tryz.prog w [] (convert 28 9 (.slice A ((ak L).length) c)) k1∧jd Tryz.prog w [] (convert 28 9 (.slice A2 ((ak M).length) c2)) k2∧jd Tryz.prog w [] (do eqGuard BinOp.eql 9 (.tmp 6) (.tmp 8) k1 k2;Go.binOp BinOp.eql 9 k1 k2) (.bool k0)∧(k0=true→((.bool true:Value) = .bool (decide (L=M))))∧(k0=false→((.bool false:Value) = .bool (decide (L=M))))) Tryz.func31 (by kernel_rfl)
 (⟨(qtv Tryz.underlying28 Tryz.underlying5 Tryz.underlying9 hx),⟨(qtv Tryz.underlying28 Tryz.underlying5 Tryz.underlying9 hy),⟨(q6p _ _),fun h1=>(by rw [show decide (L=M)=decide (wo L=wo M) from decide_eq_decide.2 (qog hx.lt hy.lt).symm,h1]),
 fun h1=>(by rw [show decide (L=M)=decide (wo L=wo M) from decide_eq_decide.2 (qog hx.lt hy.lt).symm,h1])⟩⟩⟩)
theorem qv2 (A:Option Addr) (c:Nat) (L:List Nat)  (w:World) (hE:ql (bf .u8) 1 w (Lt w.heap.size) A (ak L)) (hc:L.length≤c):Calls Tryz.prog 30 #[.slice A (ak L).length c] w fun e w'=>e = .returned (.bool (decide (Ey L)))∧Below w.heap.size w w' :=
 have hdl:(ak L).length=L.length:=by simp [ak]
 have hb8:∀ b ∈ L,b < 256:=qml hE
 have hx:Az w w.heap.size A L:=Q5.Ws (qio hE (qh1 hE)) (fun _ h=>h)
 uw (fn:=Tryz.f30) (r:=.bool (decide (Ey L))) (t:=.s (.k .z) (.k (.x (.slice A ((ak (L.take 4)).length) c) (.x (.string (wo (L.take 4))) (.xs (!decide (wo (L.take 4)=⟨#[115,110,97,102]⟩)) .z (.o [] (.p (au A) (ay A+4 * 1) #[.int .u8 ((ak L).getD 4 0)] (.x (.int .i64 (((L.getD 4 0):Nat):Int)) (.p (au A) (ay A+5 * 1) #[.int .u8 ((ak L).getD 5 0)] (.x (.int .i64 (((L.getD 5 0):Nat):Int)) (.p (au A) (ay A+7 * 1) #[.int .u8 ((ak L).getD 7 0)] (.x (.int .i64 (((L.getD 7 0):Nat):Int)) (.s (.k (.s (.k (.s (.k (.s (.k (.s (.k (.c (.int .i64 ((Qw (L.getD 4 0) (L.getD 5 0) (L.getD 7 0):Nat):Int)) (.s .z .z))) (.k .z))) (.k (.k .z)))) (.k (.k (.k .z))))) (.k (.k (.k (.k .z)))))) (.k (.k (.k (.k (.k .z)))))))))))))))))) (X :=
 let k0:=(.bool false:Value) = .bool (decide (Ey L));let k1:=(((L.getD 4 0):Nat):Int);let k2:=(((L.getD 5 0):Nat):Int);let k3:=((Qw (L.getD 4 0) (L.getD 5 0) (L.getD 7 0):Nat):Int);let k4:=(((L.getD 7 0):Nat):Int);let k5:Value:=.slice A ((ak L).length) c;let k6:=((ak L).length:Int);let k7:Value:=.string ⟨#[115,110,97,102]⟩;let k8:Value:=.string (wo (L.take 4));let k9:Value:=.slice A ((ak (L.take 4)).length) c;((decide (k6 < 36))=true→k0)∧((decide (k6 < 36))=false→jd Tryz.prog w [] (Instr.sliceAt 28 k5 none (some (.int .i64 4)) none) k9∧jd Tryz.prog w [] (convert 28 9 k9) k8∧jd Tryz.prog w [] (do eqGuard BinOp.neq 9 (.tmp 12) (.const k7) k8 k7;Go.binOp BinOp.neq 9 k8 k7) (.bool (!decide (wo (L.take 4)=⟨#[115,110,97,102]⟩)))∧((!decide (wo (L.take 4)=⟨#[115,110,97,102]⟩))=true→k0)∧((!decide (wo (L.take 4)=⟨#[115,110,97,102]⟩))=false→jd Tryz.prog w [] (Instr.indexAt 28 k5 (.int .i64 4)) (.pointer (some ⟨au A,ay A+4 * 1,none⟩))∧o7 w [] (au A) (ay A+4 * 1) #[.int .u8 ((ak L).getD 4 0)]∧jd Tryz.prog w [] (convert 5 3 (.int .u8 ((ak L).getD 4 0))) (.int .i64 k1)∧jd Tryz.prog w [] (Instr.indexAt 28 k5 (.int .i64 5)) (.pointer (some ⟨au A,ay A+5 * 1,none⟩))∧o7 w [] (au A) (ay A+5 * 1) #[.int .u8 ((ak L).getD 5 0)]∧jd Tryz.prog w [] (convert 5 3 (.int .u8 ((ak L).getD 5 0))) (.int .i64 k2)∧jd Tryz.prog w [] (Instr.indexAt 28 k5 (.int .i64 7)) (.pointer (some ⟨au A,ay A+7 * 1,none⟩))∧o7 w [] (au A) (ay A+7 * 1) #[.int .u8 ((ak L).getD 7 0)]∧jd Tryz.prog w [] (convert 5 3 (.int .u8 ((ak L).getD 7 0))) (.int .i64 k4)∧((decide (k1 ≥ 1))=true→((decide (k1≤8))=true→((decide (k2 ≥ 1))=true→((decide (k2≤8))=true→((decide (k4≤64))=true→iq Tryz.prog w [] 26 #[.int .i64 k1,.int .i64 k2,.int .i64 k4] (.int .i64 k3)∧((decide (k6=k3))=true→((.bool true:Value) = .bool (decide (Ey L))))∧((decide (k6=k3))=false→k0))∧((decide (k4≤64))=false→k0))∧((decide (k2≤8))=false→k0))∧((decide (k2 ≥ 1))=false→k0))∧((decide (k1≤8))=false→k0))∧((decide (k1 ≥ 1))=false→k0)))) Tryz.func30 (by kernel_rfl)
 (⟨fun h1=>have h1:((ak L).length:Int) < 36:=(by simpa using h1)
(by rw [decide_eq_false (fun hm=>by obtain ⟨m1,_,m2,m3,m4,m5,m6,m7⟩:=hm;omega)]),
 fun h1=>have h1:¬ ((ak L).length:Int) < 36:=(by simpa using h1)
⟨(zaf Tryz.underlying28 y9 (by omega) (by omega)),⟨(qtv Tryz.underlying28 Tryz.underlying5 Tryz.underlying9 (hx.take 4)),⟨(qv0 _ _),fun h2=>(by rw [decide_eq_false (fun hm=>by have h:=(qtw hb8).2 hm.2.1;have:=h2;rw [h] at this;simp at this)]),
 fun h2=>⟨(yw Tryz.underlying28 y9 Ny (Nat.le_refl _) hE rfl (by show (4:Nat) < _;omega)),(qa0 Ny (Nat.le_refl _) hE (ou (by show (4:Nat) < _;omega))),⟨(qoe Tryz.underlying5 Tryz.underlying3 (by omega) hb8),⟨(yw Tryz.underlying28 y9 Ny (Nat.le_refl _) hE rfl (by show (5:Nat) < _;omega)),(qa0 Ny (Nat.le_refl _) hE (ou (by show (5:Nat) < _;omega))),⟨(qoe Tryz.underlying5 Tryz.underlying3 (by omega) hb8),⟨(yw Tryz.underlying28 y9 Ny (Nat.le_refl _) hE rfl (by show (7:Nat) < _;omega)),(qa0 Ny (Nat.le_refl _) hE (ou (by show (7:Nat) < _;omega))),⟨(qoe Tryz.underlying5 Tryz.underlying3 (by omega) hb8),⟨fun h3=>have h3:¬ (((L.getD 4 0):Nat):Int) < 1:=(by simpa using h3)
⟨fun h4=>have h4:¬ 8 < (((L.getD 4 0):Nat):Int):=(by simpa using h4)
⟨fun h5=>have h5:¬ (((L.getD 5 0):Nat):Int) < 1:=(by simpa using h5)
⟨fun h6=>have h6:¬ 8 < (((L.getD 5 0):Nat):Int):=(by simpa using h6)
⟨fun h7=>have h7:¬ 64 < (((L.getD 7 0):Nat):Int):=(by simpa using h7)
⟨(q6q (by omega) (by omega) (by omega)),⟨fun h8=>have h8:((ak L).length:Int)=((Qw (L.getD 4 0) (L.getD 5 0) (L.getD 7 0):Nat):Int):=(by simpa using h8)
(by rw [decide_eq_true ⟨by omega,(qtw hb8).1 (by simpa using h2),by omega,by omega,by omega,by omega,by omega,by omega⟩]),
 fun h8=>have h8:¬ ((ak L).length:Int)=((Qw (L.getD 4 0) (L.getD 5 0) (L.getD 7 0):Nat):Int):=(by simpa using h8)
(by rw [decide_eq_false (fun hm=>by obtain ⟨m1,_,m2,m3,m4,m5,m6,m7⟩:=hm;omega)])⟩⟩,
 fun h7=>have h7:64 < (((L.getD 7 0):Nat):Int):=(by simpa using h7)
(by rw [decide_eq_false (fun hm=>by obtain ⟨m1,_,m2,m3,m4,m5,m6,m7⟩:=hm;omega)])⟩,
 fun h6=>have h6:8 < (((L.getD 5 0):Nat):Int):=(by simpa using h6)
(by rw [decide_eq_false (fun hm=>by obtain ⟨m1,_,m2,m3,m4,m5,m6,m7⟩:=hm;omega)])⟩,
 fun h5=>have h5:(((L.getD 5 0):Nat):Int) < 1:=(by simpa using h5)
(by rw [decide_eq_false (fun hm=>by obtain ⟨m1,_,m2,m3,m4,m5,m6,m7⟩:=hm;omega)])⟩,
 fun h4=>have h4:8 < (((L.getD 4 0):Nat):Int):=(by simpa using h4)
(by rw [decide_eq_false (fun hm=>by obtain ⟨m1,_,m2,m3,m4,m5,m6,m7⟩:=hm;omega)])⟩,
 fun h3=>have h3:(((L.getD 4 0):Nat):Int) < 1:=(by simpa using h3)
(by rw [decide_eq_false (fun hm=>by obtain ⟨m1,_,m2,m3,m4,m5,m6,m7⟩:=hm;omega)])⟩⟩⟩⟩⟩⟩⟩⟩⟩⟩⟩)
end Go.Proofs.YtbbjlfbemibfcaaGreat.row
end
section
namespace Go.Proofs.YtbbjlfbemibfcaaGreat.row
open Go.RowKit Go.Proofs.YtbbjlfbemibfcaaGreat
set_option maxRecDepth 20000
open Go.Proofs.YtbbjlfbemibfcaaGreat.frame (be zi Me u le4)
open Go.Proofs.YtbbjlfbemibfcaaGreat.book (St right)
open Go.Proofs.YtbbjlfbemibfcaaGreat.order (Or oz)
def txt (L:List Nat):List Nat:=L.take (L.length - 4)
def sm (L:List Nat):List Nat:=L.drop (L.length - 4)
def yj (L:List Nat):St:=Di (txt L) (L.getD 4 0) (L.getD 5 0) (L.getD 7 0) (L.getD 4 0 * L.getD 5 0)
def uo:St:=⟨0,0,[],[],[],[],false,0,0,0⟩
def zo:Sv:=⟨none,0,none,0,none,0,none,0⟩
def ig (L:List Nat):St × Int :=
 if Ey L then (if sm L=le4 (crc.more 0 (txt L)) then (if right (yj L)=true∧txt L=told (yj L) then (yj L,0) else (uo,2)) else (uo,10)) else (uo,2)
theorem iy (L:List Nat):(ak L).length=L.length:=by simp [ak]
section
variable {P:Program} {w w0 w2:World} {D:List Fact} {L:List Nat} {gb ob c:Nat}
theorem Og (h:¬ Ey L):ig L=(uo,2):=if_neg h
theorem qp9 (h:Ey L) (h2:¬ sm L=le4 (crc.more 0 (txt L))):ig L=(uo,10):=by unfold ig;rw [if_pos h,if_neg h2]
theorem qqa (h:Ey L) (h2:sm L=le4 (crc.more 0 (txt L))) (h3:right (yj L)=true) (h4:txt L=told (yj L)):ig L=(yj L,0):=by unfold ig;rw [if_pos h,if_pos h2,if_pos ⟨h3,h4⟩]
theorem qqb (h:Ey L) (h2:sm L=le4 (crc.more 0 (txt L))) (h3:right (yj L)=false):ig L=(uo,2):=by unfold ig;rw [if_pos h,if_pos h2,if_neg (fun hh=>by rw [h3] at hh;exact absurd hh.1 (by decide))]
theorem qqc (h:Ey L) (h2:sm L=le4 (crc.more 0 (txt L))) (h4:¬ txt L=told (yj L)):ig L=(uo,2):=by unfold ig;rw [if_pos h,if_pos h2,if_neg (fun hh=>h4 hh.2)]
theorem Cm {α:Type} {R:Rd α} (hR:qc2 R) {size:Nat} {A:Option Addr} {xs:List α} (h:ql R size w (Lt w.heap.size) A xs) (hb:Below w.heap.size w w2):ql R size w2 (Lt w2.heap.size) A xs :=
 h.keep hR (qgr hb) (fun b hl=>Nat.lt_of_lt_of_le hl hb.size)
theorem qtx (h:ql (bf .u8) 1 w (Lt w.heap.size) (some ⟨gb,ob,none⟩) (ak L)):ql (bf .u8) 1 w (Lt w.heap.size) (some ⟨gb,ob,none⟩) (ak (txt L)):=by
 have e:ak (txt L)=(ak L).take (L.length - 4):=by simp [ak,txt]
 rw [e];exact book.qgo h _
theorem qv3 (h:ql (bf .u8) 1 w (Lt w.heap.size) (some ⟨gb,ob,none⟩) (ak L)):Az w w.heap.size (some ⟨gb,ob,none⟩) (txt L) :=
 Q5.Ws (qio (qtx h) (qh1 (qtx h))) (fun _ h=>h)
theorem q81 (hm:Ey L) (h:ql (bf .u8) 1 w (Lt w.heap.size) (some ⟨gb,ob,none⟩) (ak L)):Az w w.heap.size (some ⟨gb,ob+(L.length - 4),none⟩) (sm L):=by
 have:=qvy (p:=L.length - 4) (c:=L.length+1) h (by omega)
 exact Q5.Ws (qio this (qh1 this)) (fun _ h=>h)
theorem q3c {a y n:Nat} (ha:a≤8) (hy:y≤8) (hn:n≤64):Qw a y n≤10000:=by
 have:a * y≤8 * 8:=Nat.mul_le_mul ha hy
 unfold Qw;omega
theorem quu (h:Ey L):L.length≤10000:=by
 obtain ⟨_,_,_,h1,_,h2,h3,h4⟩:=h
 rw [h4];exact q3c h1 h2 h3
theorem q0n (h:Ey L):(txt L).length≤100000:=by
 have:=quu h
 unfold txt;rw [List.length_take];omega
theorem q6r (h:Ey L):(txt L).length=L.length - 4:=by unfold txt;rw [List.length_take];omega
theorem qtz {i:Nat} (hi:i < L.length - 4):(txt L).getD i 0=L.getD i 0:=by
 unfold txt
 rw [List.getD_eq_getElem?_getD,List.getD_eq_getElem?_getD,List.getElem?_take_of_lt hi]
theorem Sj {T:List Nat} {p:Nat} (hb:∀ b ∈ T,b < 256) (hp:p < T.length):at_ T p 1=((T.getD p 0:Nat):Int):=by
 have e:(T.drop p).take 1=[T.getD p 0]:=by
  rw [List.getD_eq_getElem?_getD,List.getElem?_eq_getElem hp,List.drop_eq_getElem_cons hp];rfl
 have:=getD_lt (i:=p) hb
 unfold at_
 rw [e,IntKind.wrap_i64]
 simp only [num,List.foldl_cons,List.foldl_nil]
 omega
theorem qv4 {t e:TypeId} {bytes:Nat} {z:Value} (ht:P.underlying t=some (.slice e)) (hinfo:(P.info? e).map (fun i=>(i.zero,i.size,i.bytes))=some (some z,1,bytes)) (hc:L.length≤c) {A:Option Addr} :
  jd P w0 D (Instr.sliceAt t (.slice A (ak L).length c) none (some (.int .i64 ((L.length - 4:Nat):Int))) none) (.slice A (ak (txt L)).length c):=fun w hw ha=>by
 have:=book.qhf (P:=P) (A:=A) (n:=(ak L).length) (c:=c) (k:=L.length - 4) ht hinfo (by omega) w
 have e:(ak (txt L)).length=L.length - 4:=by rw [iy];unfold txt;rw [List.length_take];omega
 rw [e];exact this
theorem q82 {t e:TypeId} {bytes:Nat} {z:Value} (ht:P.underlying t=some (.slice e)) (hinfo:(P.info? e).map (fun i=>(i.zero,i.size,i.bytes))=some (some z,1,bytes)) (O1:36≤L.length) (hc:L.length≤c) :
  jd P w0 D (Instr.sliceAt t (.slice (some ⟨gb,ob,none⟩) (ak L).length c) (some (.int .i64 ((L.length - 4:Nat):Int))) none none) (.slice (some ⟨gb,ob+(L.length - 4),none⟩) (ak (sm L)).length (c - (L.length - 4))):=fun w hw ha=>by
 have h:=book.qi3 (P:=P) (A:=some ⟨gb,ob,none⟩) (n:=(ak L).length) (c:=c) (k:=L.length - 4) ht hinfo (by rw [iy];omega) w
 have e1:cutAt (some ⟨gb,ob,none⟩) c (L.length - 4) 1=some ⟨gb,ob+(L.length - 4),none⟩:=by
  have hne:¬ c=L.length - 4:=by omega
  have h1:¬ L.length - 4=0:=by omega
  simp [cutAt,hne,Addr.add,h1]
 have e2:(ak L).length - (L.length - 4)=(ak (sm L)).length:=by rw [iy,iy];unfold sm;rw [List.length_drop]
 rw [e1,e2] at h
 exact h
theorem G8 (h:Ey L):frame.jh (yj L).a∧frame.jh (yj L).y∧frame.jh (yj L).last∧frame.jh (yj L).seq∧frame.jh (yj L).ng:=by
 obtain ⟨_,_,_,h1,_,h2,_⟩:=h
 exact ⟨by show frame.jh ((L.getD 4 0:Nat):Int);unfold frame.jh;omega,by show frame.jh ((L.getD 5 0:Nat):Int);unfold frame.jh;omega,Hl _ _ _,Hl _ _ _,Hl _ _ _⟩
theorem q4r {v:Sv} (h:Ey L) (ho:um eu 12 w 0 54 (fun _=>False) v.A1 (yj L).os.length v.c1 (yj L).os) (hc:um gu 4 w 0 60 (fun _=>False) v.A2 (yj L).cs.length v.c2 (yj L).cs) (hl:um je 3 w 0 51 (fun _=>False) v.A3 (yj L).ls.length v.c3 (yj L).ls) (hk:um (bf .i64) 1 w 0 2 (fun _=>False) v.A4 (yj L).ps.length v.c4 (yj L).ps):lu w (Lt w.heap.size) v (yj L) :=
 book.Qq ho hc hl hk (G8 h)
theorem q83 (hx:ql (bf .u8) 1 w0 (Lt w0.heap.size) (some ⟨gb,ob,none⟩) (ak L)) (hc:L.length≤c) (h:Ey L):qg Tryz.prog w0 D 32 #[.slice (some ⟨gb,ob,none⟩) (ak (txt L)).length c] Sv (fun x=>.agg (bg x (yj L))) (fun x=>qbv x (yj L)):=fun w hw _=>by
 have hT:=qtx (Cm (pz _) hx hw)
 have hb:=qml hT
 have hl:=q6r h
 obtain ⟨O1,_,h1,h2,h3,h4,h5,h6⟩:=h
 have h7:L.getD 4 0 * L.getD 5 0≤8 * 8:=Nat.mul_le_mul h2 h4
 refine q80 (txt L) gb ob c (L.getD 4 0) (L.getD 5 0) (L.getD 7 0) (L.getD 4 0 * L.getD 5 0) w hT (by omega) ?_ ?_ ?_ ⟨⟨h1,h2⟩,⟨h3,h4⟩,h5⟩ ⟨rfl,by omega⟩ ?_
 ·rw [Sj hb (by omega),qtz (by omega)]
 ·rw [Sj hb (by omega),qtz (by omega)]
 ·rw [Sj hb (by omega),qtz (by omega)]
 ·rw [hl,h6];unfold Qw;omega
theorem qg7:iw w D (qbv zo uo):=fun _ _ =>
 ⟨fun f hf=>by
   simp only [qbv,List.mem_cons,List.not_mem_nil,or_false] at hf
   rcases hf with rfl | rfl | rfl | rfl
   ·exact Ko E9
   ·exact Ko zn
   ·exact Ko Fq
   ·exact Ko (pz _),
  by
   have e:∀ f ∈ qbv zo uo,∀ k,¬ f.S k:=fun f hf k hk=>by
    simp only [qbv,List.mem_cons,List.not_mem_nil,or_false] at hf
    rcases hf with rfl | rfl | rfl | rfl<;>simp [ah,zo,Value.ownBlock] at hk
   exact List.Pairwise.imp_of_mem (fun {f _} hf _ _ k hk=>absurd hk (e f hf k)) (List.pairwise_of_forall (R:=fun _ _=>True) (fun _ _=>trivial)),
  fun f hf k hk=>by
   simp only [qbv,List.mem_cons,List.not_mem_nil,or_false] at hf
   rcases hf with rfl | rfl | rfl | rfl<;>simp [ah,zo,Value.ownBlock] at hk,
  fun w _ _=>⟨um.nil,um.nil,um.nil,um.nil,trivial⟩⟩
end
theorem qoh (L:List Nat) (gb ob c:Nat)  (w:World) (hx:ql (bf .u8) 1 w (Lt w.heap.size) (some ⟨gb,ob,none⟩) (ak L)) (hc:L.length≤c) (hlm:L.length≤9223372036854775807):Calls Tryz.prog 14 #[.slice (some ⟨gb,ob,none⟩) (ak L).length c] w fun e w' => ∃ x:Sv,e = .returned (.tuple #[.agg (bg x (ig L).1),.int .i64 (ig L).2])∧Below w.heap.size w w'∧xq (fun _=>False) w.heap.size (qbv x (ig L).1) w' :=
 have hl:=iy L
 Le (fn:=Tryz.f14) (r:=fun (x:Sv)=>.tuple #[.agg (bg x (ig L).1),.int .i64 (ig L).2]) (fs:=fun (x:Sv)=>qbv x (ig L).1) (t:=let k0:=ak (le4 (crc.more 0 (txt L)));let k1:=ak (told (yj L));let k2:Value:=.int .i64 ((L.length - 4:Nat):Int); .cs (decide (Ey L)) (.o [] (.e k2 (.x (.slice (some ⟨gb,ob,none⟩) ((ak (txt L)).length) c) (.e k2 (.x (.slice (some ⟨gb,ob+(L.length - 4),none⟩) ((ak (sm L)).length) (c - (L.length - 4))) (.cm (Option Addr × Nat) (fun x=>.slice x.1 (k0.length) x.2) (fun x=>[ah (bf .u8) 1 5 x.1 (k0.length) x.2 k0]) (fun x2=>.cs (decide (sm L=le4 (crc.more 0 (txt L)))) (.cm (Sv) (fun x=>.agg (bg x (yj L))) (fun x=>[oO x.A1 ((yj L).os.length) x.c1 ((yj L).os),oC x.A2 ((yj L).cs.length) x.c2 ((yj L).cs),oX x.A3 ((yj L).ls.length) x.c3 ((yj L).ls),oI x.A4 ((yj L).ps.length) x.c4 ((yj L).ps)]) (fun x4=>.cs (right (yj L)) (.k (.cm (Option Addr × Nat) (fun x=>.slice x.1 (k1.length) x.2) (fun x=>[ah (bf .u8) 1 5 x.1 (k1.length) x.2 k1]) (fun x6=>.cs (decide (txt L=told (yj L))) .z .z))) (.k .z))) .z))))))) .z) (X :=
 let k0:=ak (le4 (crc.more 0 (txt L)));let k1:Array Value:=#[.int .i64 0,.int .i64 0,.slice none 0 0,.slice none 0 0,.slice none 0 0,.slice none 0 0,.bool false,.int .i64 0,.int .i64 0,.int .i64 0];let k2:=ak (told (yj L));let k3:Option Addr:=some ⟨gb,ob,none⟩;let k4:=(yj L).os.length;let k5:=(yj L).cs.length;let k6:=(yj L).ls.length;let k7:=(yj L).ps.length;let k8:=decide (sm L=le4 (crc.more 0 (txt L)));let k9:=((L.length - 4:Nat):Int);let k10:=(.tuple #[.agg k1,.int .i64 2]:Value);let k11:=(.int .i64 (IntKind.i64.wrap (((ak L).length:Int) - 4)):Value);let k12:=(ak (txt L)).length;let k13:=decide (txt L=told (yj L));let k14:=L.length - 4;let k15:=decide (Ey L);let k16:=(ak L).length;let k17:=right (yj L); ∀ g0:Nat,iq Tryz.prog w [] 30 #[.slice k3 k16 c] (.bool k15)∧(k15=true→k11 = .int .i64 k9∧jd Tryz.prog w [] (Instr.sliceAt 28 (.slice k3 k16 c) none (some (.int .i64 k9)) none) (.slice k3 k12 c)∧k11 = .int .i64 k9∧jd Tryz.prog w [] (Instr.sliceAt 28 (.slice k3 k16 c) (some (.int .i64 k9)) none none) (.slice (some ⟨gb,ob+k14,none⟩) ((ak (sm L)).length) (c - k14))∧qg Tryz.prog w [] 22 #[.slice k3 k12 c] (Option Addr × Nat) (fun x=>.slice x.1 (k0.length) x.2) (fun x=>[ah (bf .u8) 1 5 x.1 (k0.length) x.2 k0])∧∀ x2:Option Addr × Nat,let k18:List Fact:=[ah (bf .u8) 1 5 x2.1 (k0.length) x2.2 k0];iq Tryz.prog w k18 31 #[.slice (some ⟨gb,ob+k14,none⟩) ((ak (sm L)).length) (c - k14),.slice x2.1 (k0.length) x2.2] (.bool k8)∧(k8=true→qg Tryz.prog w k18 32 #[.slice k3 k12 c] (Sv) (fun x=>.agg (bg x (yj L))) (fun x=>[oO x.A1 k4 x.c1 ((yj L).os),oC x.A2 k5 x.c2 ((yj L).cs),oX x.A3 k6 x.c3 ((yj L).ls),oI x.A4 k7 x.c4 ((yj L).ps)])∧∀ x4:Sv,let k19:List Fact:=[oO x4.A1 k4 x4.c1 ((yj L).os),oC x4.A2 k5 x4.c2 ((yj L).cs),oX x4.A3 k6 x4.c3 ((yj L).ls),oI x4.A4 k7 x4.c4 ((yj L).ps),ah (bf .u8) 1 5 x2.1 (k0.length) x2.2 k0];let k20:=bg x4 (yj L);  ∀ g1:Nat,iq Tryz.prog w k19 18 #[.agg k20] (.bool k17)∧(k17=true→qg Tryz.prog w k19 21 #[.agg k20] (Option Addr × Nat) (fun x=>.slice x.1 (k2.length) x.2) (fun x=>[ah (bf .u8) 1 5 x.1 (k2.length) x.2 k2])∧∀ x6:Option Addr × Nat,let k21:List Fact:=[ah (bf .u8) 1 5 x6.1 (k2.length) x6.2 k2,oO x4.A1 k4 x4.c1 ((yj L).os),oC x4.A2 k5 x4.c2 ((yj L).cs),oX x4.A3 k6 x4.c3 ((yj L).ls),oI x4.A4 k7 x4.c4 ((yj L).ps),ah (bf .u8) 1 5 x2.1 (k0.length) x2.2 k0];iq Tryz.prog w k21 31 #[.slice k3 k12 c,.slice x6.1 (k2.length) x6.2] (.bool k13)∧(k13=true→∃ x:Sv,(.tuple #[.agg k20,.int .i64 0]:Value) = .tuple #[.agg (bg x (ig L).1),.int .i64 (ig L).2]∧iw w k21 (qbv x (ig L).1))∧(k13=false→∃ x:Sv,k10 = .tuple #[.agg (bg x (ig L).1),.int .i64 (ig L).2]∧iw w k21 (qbv x (ig L).1)))∧(k17=false→∃ x:Sv,k10 = .tuple #[.agg (bg x (ig L).1),.int .i64 (ig L).2]∧iw w k19 (qbv x (ig L).1)))∧(k8=false→∃ x:Sv,(.tuple #[.agg k1,.int .i64 10]:Value) = .tuple #[.agg (bg x (ig L).1),.int .i64 (ig L).2]∧iw w k18 (qbv x (ig L).1)))∧(k15=false→∃ x:Sv,k10 = .tuple #[.agg (bg x (ig L).1),.int .i64 (ig L).2]∧iw w [] (qbv x (ig L).1))) Tryz.func14 (by kernel_rfl)
 (fun g0=>⟨(fun w2 hw _=>qv2 _ _ _ w2 (Cm (pz _) hx hw) hc),fun h1=>⟨lg (by rw [iy];have:=((of_decide_eq_true h1)).1;omega) (by have:=((of_decide_eq_true h1)).1;omega) (by have:=((of_decide_eq_true h1)).2.2;unfold Qw at this;have:=hlm;omega),⟨(qv4 Tryz.underlying28 y9 hc),⟨lg (by rw [iy];have:=((of_decide_eq_true h1)).1;omega) (by have:=((of_decide_eq_true h1)).1;omega) (by have:=((of_decide_eq_true h1)).2.2;unfold Qw at this;have:=hlm;omega),⟨(q82 Tryz.underlying28 y9 ((of_decide_eq_true h1)).1 hc),⟨(qvw (fun w2 hw _=>qv3 (Cm (pz _) hx hw)) (q0n (of_decide_eq_true h1))),fun x2=>⟨(fun w2 hw ha=>qv1 _ _ _ _ (sm L) _ w2 (q81 (of_decide_eq_true h1) (Cm (pz _) hx hw)) (qkt (w0:=w) (j:=0) rfl w2 hw ha)),fun h3=>⟨(q83 hx hc (of_decide_eq_true h1)),fun x4=>fun g1=>⟨(book.qp6 (fun w2 _ ha=>q4r (of_decide_eq_true h1) (ji (j:=0) rfl w2 ha) (ji (j:=1) rfl w2 ha) (ji (j:=2) rfl w2 ha) (ji (j:=3) rfl w2 ha))),fun h5=>⟨(q0h (fun w2 _ ha=>q4r (of_decide_eq_true h1) (ji (j:=0) rfl w2 ha) (ji (j:=1) rfl w2 ha) (ji (j:=2) rfl w2 ha) (ji (j:=3) rfl w2 ha)) (uj h5)),fun x6=>⟨(fun w2 hw ha=>qv1 _ _ _ _ (txt L) _ w2 (qv3 (Cm (pz _) hx hw)) (qkt (w0:=w) (j:=0) rfl w2 hw ha)),fun h7=>⟨x4,(by rw [qqa (of_decide_eq_true h1) (of_decide_eq_true h3) h5 (of_decide_eq_true h7)]<;>rfl),(by rw [qqa (of_decide_eq_true h1) (of_decide_eq_true h3) h5 (of_decide_eq_true h7)];exact (oq [1,2,3,4] (by decide) rfl))⟩,
 fun h7=>⟨zo,(by rw [qqc (of_decide_eq_true h1) (of_decide_eq_true h3) (of_decide_eq_false h7)]<;>rfl),(by rw [qqc (of_decide_eq_true h1) (of_decide_eq_true h3) (of_decide_eq_false h7)];exact qg7)⟩⟩⟩,
 fun h5=>⟨zo,(by rw [qqb (of_decide_eq_true h1) (of_decide_eq_true h3) h5]<;>rfl),(by rw [qqb (of_decide_eq_true h1) (of_decide_eq_true h3) h5];exact qg7)⟩⟩⟩,
 fun h3=>⟨zo,(by rw [qp9 (of_decide_eq_true h1) (of_decide_eq_false h3)]<;>rfl),(by rw [qp9 (of_decide_eq_true h1) (of_decide_eq_false h3)];exact qg7)⟩⟩⟩⟩⟩⟩⟩,
 fun h1=>⟨zo,(by rw [Og (of_decide_eq_false h1)]<;>rfl),(by rw [Og (of_decide_eq_false h1)];exact qg7)⟩⟩)
theorem qkd (L:List Nat) (A:Option Addr) (c:Nat)  (w:World) (hx:ql (bf .u8) 1 w (Lt w.heap.size) A (ak L)) (hc:L.length≤c) (hlm:L.length≤9223372036854775807) (hno:¬ Ey L):Calls Tryz.prog 14 #[.slice A (ak L).length c] w fun e w' => ∃ x:Sv,e = .returned (.tuple #[.agg (bg x (ig L).1),.int .i64 (ig L).2])∧Below w.heap.size w w'∧xq (fun _=>False) w.heap.size (qbv x (ig L).1) w' :=
 have hl:=iy L
 Le (fn:=Tryz.f14) (r:=fun (x:Sv)=>.tuple #[.agg (bg x (ig L).1),.int .i64 (ig L).2]) (fs:=fun (x:Sv)=>qbv x (ig L).1) (t:=.c (.bool false) .z) (X :=
∀ g0:Nat,iq Tryz.prog w [] 30 #[.slice A ((ak L).length) c] (.bool false)∧∃ x:Sv,(.tuple #[.agg #[.int .i64 0,.int .i64 0,.slice none 0 0,.slice none 0 0,.slice none 0 0,.slice none 0 0,.bool false,.int .i64 0,.int .i64 0,.int .i64 0],.int .i64 2]:Value) = .tuple #[.agg (bg x (ig L).1),.int .i64 (ig L).2]∧iw w [] (qbv x (ig L).1)) Tryz.func14 (by kernel_rfl)
 (fun g0=>⟨(fun w2 hw _=>by have:=qv2 A c L w2 (Cm (pz _) hx hw) hc;rw [decide_eq_false hno] at this;exact this),⟨zo,(by rw [Og hno]<;>rfl),(by rw [Og hno];exact qg7)⟩⟩)
end Go.Proofs.YtbbjlfbemibfcaaGreat.row
end
