/-
  zlt, zss
-/
import Derived.Test.YtbbjlfbemibfcaaGreatMrr21
import Derived.Test.YtbbjlfbemibfcaaGreatMrr16
import Derived.Test.YtbbjlfbemibfcaaGreatMrr46
set_option linter.unusedVariables false
set_option linter.unusedSimpArgs false
section
namespace Go.Proofs.YtbbjlfbemibfcaaGreat.book
open Go.RowKit Go.Proofs.YtbbjlfbemibfcaaGreat
open Go.Proofs.YtbbjlfbemibfcaaGreat.order (Or open_ worth)
open Go.Proofs.YtbbjlfbemibfcaaGreat.cell (Ce Ex)
open Go.Proofs.YtbbjlfbemibfcaaGreat.rec (Rc)
set_option maxRecDepth 20000
theorem D8 {s t:St} (h1:s.a=t.a) (h2:s.y=t.y) (h3:s.k=t.k) (h4:s.last=t.last) (h5:s.seq=t.seq) (h6:s.ng=t.ng) (h7:s.os=t.os) (h8:s.cs=t.cs) (h9:s.ls=t.ls) (h10:s.ps=t.ps):decide (s=t)=true:=by
 obtain ⟨a,y,os,cs,ls,ps,k,last,seq,ng⟩:=s
 obtain ⟨a',y',os',cs',ls',ps',k',last',seq',zlu⟩:=t
 simp only at h1 h2 h3 h4 h5 h6 h7 h8 h9 h10
 subst h1 h2 h3 h4 h5 h6 h7 h8 h9 h10
 simp
theorem jk {s t:St} (h:¬ s=t):decide (s=t)=false:=decide_eq_false h
theorem q8x (v:Sv) (s:St)  (w:World):Calls Tryz.prog 9 #[.agg (bg v s)] w fun e w'=>e = .returned (.bool (short s))∧Below w.heap.size w w' :=
 uw (fn:=Tryz.f9) (r:=.bool (short s)) (t:=.s (.k (.s (.k (.s (.k (.s .z .z)) (.k .z))) (.k (.k .z)))) (.k (.k (.k .z)))) (X :=
 let k0:=(.bool false:Value);let k1:=decide ((s.os.length:Int)≤70);let k2:=decide ((s.cs.length:Int)≤70);let k3:=decide ((s.ls.length:Int)≤70);let k4:=decide ((s.ps.length:Int)≤70); ∀ g0:Nat,(k1=true→(k2=true→(k3=true→(k4=true→(.bool true:Value) = .bool (short s))∧(k4=false→k0 = .bool (short s)))∧(k3=false→k0 = .bool (short s)))∧(k2=false→k0 = .bool (short s)))∧(k1=false→k0 = .bool (short s))) Tryz.func9 (by kernel_rfl)
 (fun g0=>⟨fun h1=>have h1:¬ 70 < (s.os.length:Int):=(by simpa using h1)
⟨fun h2=>have h2:¬ 70 < (s.cs.length:Int):=(by simpa using h2)
⟨fun h3=>have h3:¬ 70 < (s.ls.length:Int):=(by simpa using h3)
⟨fun h4=>have h4:¬ 70 < (s.ps.length:Int):=(by simpa using h4)
(by unfold short;congr 1;symm;simp only [decide_eq_true_eq,decide_eq_false_iff_not];omega),
 fun h4=>have h4:70 < (s.ps.length:Int):=(by simpa using h4)
(by unfold short;congr 1;symm;simp only [decide_eq_true_eq,decide_eq_false_iff_not];omega)⟩,
 fun h3=>have h3:70 < (s.ls.length:Int):=(by simpa using h3)
(by unfold short;congr 1;symm;simp only [decide_eq_true_eq,decide_eq_false_iff_not];omega)⟩,
 fun h2=>have h2:70 < (s.cs.length:Int):=(by simpa using h2)
(by unfold short;congr 1;symm;simp only [decide_eq_true_eq,decide_eq_false_iff_not];omega)⟩,
 fun h1=>have h1:70 < (s.os.length:Int):=(by simpa using h1)
(by unfold short;congr 1;symm;simp only [decide_eq_true_eq,decide_eq_false_iff_not];omega)⟩)
theorem zac (v:Sv) (s:St) (u:Sv) (t:St)  (w:World) (h:lu w (Lt w.heap.size) v s) (g:lu w (Lt w.heap.size) u t):Calls Tryz.prog 16 #[.agg (bg v s),.agg (bg u t)] w fun e w'=>e = .returned (.bool (decide (s=t)))∧Below w.heap.size w w' :=
 have hlen:=h.len
 uw (fn:=Tryz.f16) (r:=.bool (decide (s=t))) (t:=.s (.k (.k (.k (.k (.k (.k (.k (.k (.k .z))))))))) (.k (.s (.k (.k (.k (.k (.k (.k (.k (.k .z)))))))) (.k (.s (.s (.k (.k (.s (.k (.k (.k (.k (.k (.k .z)))))) (.k (.s (.k (.k (.k (.k (.k .z))))) (.k (.s (.k (.k (.k (.k .z)))) (.k (.s (.k (.k (.k .z))) (.k (.s (.k (.k .z)) (.k (.s (.k .z) (.k (.s .z (.l (Nat) (fun x=>[(2,undef,some (0,0)),(3,undef,some (1,0)),(5,.int .i64 (x:Int),none)]) (fun x=>[]) [0,1] [] (fun x=>[]) (fun x=>x≤s.os.length∧∀ j,j < x→s.os.getD j order.oz=t.os.getD j order.oz) (fun x=>s.os.length - x) (0:Nat) (fun Ac=>let k0:=s.os.getD Ac order.oz;let k1:=t.os.getD Ac order.oz; .s (.o [] (.p (au v.A1) (ay v.A1+Ac * 12) (order.oc k0) (.p (au u.A1) (ay u.A1+Ac * 12) (order.oc k1) (.xs (!decide (k0=k1)) .z (.e (.int .i64 ((Ac+1:Nat):Int)) .z))))) (.l (Nat) (fun x=>[(2,undef,some (0,0)),(3,undef,some (1,0)),(6,.int .i64 (x:Int),none)]) (fun x=>[]) [0,1] [] (fun x=>[]) (fun x=>x≤s.cs.length∧∀ j,j < x→s.cs.getD j cz=t.cs.getD j cz) (fun x=>s.cs.length - x) (0:Nat) (fun jc=>.s (.o [] (.p (au v.A2) (ay v.A2+jc * 4) (cell.cc (s.cs.getD jc cz)) (.p (au u.A2) (ay u.A2+jc * 4) (cell.cc (t.cs.getD jc cz)) (.xs (!decide ((s.cs.getD jc cz)=(t.cs.getD jc cz))) .z (.e (.int .i64 ((jc+1:Nat):Int)) .z))))) (.l (Nat) (fun x=>[(2,undef,some (0,0)),(3,undef,some (1,0)),(7,.int .i64 (x:Int),none)]) (fun x=>[]) [0,1] [] (fun x=>[]) (fun x=>x≤s.ls.length∧∀ j,j < x→s.ls.getD j xz=t.ls.getD j xz) (fun x=>s.ls.length - x) (0:Nat) (fun y22=>.s (.o [] (.p (au v.A3) (ay v.A3+y22 * 3) (cell.xc (s.ls.getD y22 xz)) (.p (au u.A3) (ay u.A3+y22 * 3) (cell.xc (t.ls.getD y22 xz)) (.xs (!decide ((s.ls.getD y22 xz)=(t.ls.getD y22 xz))) .z (.e (.int .i64 ((y22+1:Nat):Int)) .z))))) (.l (Nat) (fun x=>[(2,undef,some (0,0)),(3,undef,some (1,0)),(8,.int .i64 (x:Int),none)]) (fun x=>[]) [0,1] [] (fun x=>[]) (fun x=>x≤s.ps.length∧∀ j,j < x→s.ps.getD j 0=t.ps.getD j 0) (fun x=>s.ps.length - x) (0:Nat) (fun y27=>.s (.o [] (.p (au v.A4) (ay v.A4+y27 * 1) #[.int .i64 (s.ps.getD y27 0)] (.p (au u.A4) (ay u.A4+y27 * 1) #[.int .i64 (t.ps.getD y27 0)] (.s .z (.e (.int .i64 ((y27+1:Nat):Int)) .z))))) .z))))))))))))))))))))))) (.k (.k (.k (.k (.k (.k (.k (.k .z))))))))) (.s (.k (.k (.k (.k (.k (.k (.k (.k .z)))))))) (.k (.k (.s (.k (.k (.k (.k (.k (.k .z)))))) (.k (.s (.k (.k (.k (.k (.k .z))))) (.k (.s (.k (.k (.k (.k .z)))) (.k (.s (.k (.k (.k .z))) (.k (.s (.k (.k .z)) (.k (.s (.k .z) (.k (.s .z (.l (Nat) (fun x=>[(2,undef,some (0,0)),(3,undef,some (1,0)),(5,.int .i64 (x:Int),none)]) (fun x=>[]) [0,1] [] (fun x=>[]) (fun x=>x≤s.os.length∧∀ j,j < x→s.os.getD j order.oz=t.os.getD j order.oz) (fun x=>s.os.length - x) (0:Nat) (fun Gh=>let k2:=s.os.getD Gh order.oz;let k3:=t.os.getD Gh order.oz; .s (.o [] (.p (au v.A1) (ay v.A1+Gh * 12) (order.oc k2) (.p (au u.A1) (ay u.A1+Gh * 12) (order.oc k3) (.xs (!decide (k2=k3)) .z (.e (.int .i64 ((Gh+1:Nat):Int)) .z))))) (.l (Nat) (fun x=>[(2,undef,some (0,0)),(3,undef,some (1,0)),(6,.int .i64 (x:Int),none)]) (fun x=>[]) [0,1] [] (fun x=>[]) (fun x=>x≤s.cs.length∧∀ j,j < x→s.cs.getD j cz=t.cs.getD j cz) (fun x=>s.cs.length - x) (0:Nat) (fun F5=>.s (.o [] (.p (au v.A2) (ay v.A2+F5 * 4) (cell.cc (s.cs.getD F5 cz)) (.p (au u.A2) (ay u.A2+F5 * 4) (cell.cc (t.cs.getD F5 cz)) (.xs (!decide ((s.cs.getD F5 cz)=(t.cs.getD F5 cz))) .z (.e (.int .i64 ((F5+1:Nat):Int)) .z))))) (.l (Nat) (fun x=>[(2,undef,some (0,0)),(3,undef,some (1,0)),(7,.int .i64 (x:Int),none)]) (fun x=>[]) [0,1] [] (fun x=>[]) (fun x=>x≤s.ls.length∧∀ j,j < x→s.ls.getD j xz=t.ls.getD j xz) (fun x=>s.ls.length - x) (0:Nat) (fun F6=>.s (.o [] (.p (au v.A3) (ay v.A3+F6 * 3) (cell.xc (s.ls.getD F6 xz)) (.p (au u.A3) (ay u.A3+F6 * 3) (cell.xc (t.ls.getD F6 xz)) (.xs (!decide ((s.ls.getD F6 xz)=(t.ls.getD F6 xz))) .z (.e (.int .i64 ((F6+1:Nat):Int)) .z))))) (.l (Nat) (fun x=>[(2,undef,some (0,0)),(3,undef,some (1,0)),(8,.int .i64 (x:Int),none)]) (fun x=>[]) [0,1] [] (fun x=>[]) (fun x=>x≤s.ps.length∧∀ j,j < x→s.ps.getD j 0=t.ps.getD j 0) (fun x=>s.ps.length - x) (0:Nat) (fun qj=>.s (.o [] (.p (au v.A4) (ay v.A4+qj * 1) #[.int .i64 (s.ps.getD qj 0)] (.p (au u.A4) (ay u.A4+qj * 1) #[.int .i64 (t.ps.getD qj 0)] (.s .z (.e (.int .i64 ((qj+1:Nat):Int)) .z))))) .z))))))))))))))))))))))))))))) (X :=
 let k0:=(.bool false:Value);let k1:=decide (s=t);let k10:=(s.os.length:Int);let k2 := !decide (k10=(t.os.length:Int));let k11:=(s.cs.length:Int);let k3 := !decide (k11=(t.cs.length:Int));let k12:=(s.ls.length:Int);let k4 := !decide (k12=(t.ls.length:Int));let k13:=(s.ps.length:Int);let k5 := !decide (k13=(t.ps.length:Int));let k6:=((0:Nat):Int);let k7 := !decide (s.last=t.last);let k8 := !decide (s.seq=t.seq);let k9 := !decide (s.ng=t.ng); ∀ g0:Nat,let k14:Option Addr:=some ⟨g0,0,none⟩;  ∀ g1:Nat,let k15:=([some ⟨g1,0,(bg u t),.own 27⟩,some ⟨g0,0,(bg v s),.own 27⟩]:List (Option jv));let k16:Option Addr:=some ⟨g1,0,none⟩;let k17:=([.pointer k14,.pointer k16,.int .i64 0]:List Value);((!decide (s.a=t.a))=true→k0 = .bool k1)∧((!decide (s.a=t.a))=false→((!decide (s.y=t.y))=true→k0 = .bool k1)∧((!decide (s.y=t.y))=false→(s.k=true→(t.k=true→(k7=true→k0 = .bool k1)∧(k7=false→(k8=true→k0 = .bool k1)∧(k8=false→(k9=true→k0 = .bool k1)∧(k9=false→(k2=true→k0 = .bool k1)∧(k2=false→(k3=true→k0 = .bool k1)∧(k3=false→(k4=true→k0 = .bool k1)∧(k4=false→(k5=true→k0 = .bool k1)∧(k5=false→xg w [] []∧((0:Nat)≤s.os.length∧∀ j,j < (0:Nat)→s.os.getD j order.oz=t.os.getD j order.oz)∧(k17=[.pointer k14,.pointer k16,.int .i64 k6]∧k15=[some ⟨g1,0,(bg u t),.own 27⟩,some ⟨g0,0,(bg v s),.own 27⟩]∧iw w [] [])∧true=true∧∀ (Ac:Nat),let k18 := !decide ((s.os.getD Ac order.oz)=(t.os.getD Ac order.oz));let k19:=order.oc (s.os.getD Ac order.oz);let k20:=order.oc (t.os.getD Ac order.oz);let k21:=decide ((Ac:Int) < k10);(Ac≤s.os.length∧∀ j,j < Ac→s.os.getD j order.oz=t.os.getD j order.oz)→∀ τ14:Nat→Value,(k21=true→jd Tryz.prog w [] (Instr.indexAt 22 (.slice v.A1 s.os.length v.c1) (.int .i64 (Ac:Int))) (.pointer (some ⟨au v.A1,ay v.A1+Ac * 12,none⟩))∧o7 w [] (au v.A1) (ay v.A1+Ac * 12) k19∧jd Tryz.prog w [] (Instr.indexAt 22 (.slice u.A1 t.os.length u.c1) (.int .i64 (Ac:Int))) (.pointer (some ⟨au u.A1,ay u.A1+Ac * 12,none⟩))∧o7 w [] (au u.A1) (ay u.A1+Ac * 12) k20∧jd Tryz.prog w [] (do eqGuard BinOp.neq 54 (.tmp 96) (.tmp 101) (.agg k19) (.agg k20);Go.binOp BinOp.neq 54 (.agg k19) (.agg k20)) (.bool k18)∧(k18=true→k0 = .bool k1)∧(k18=false→(.int .i64 (IntKind.i64.wrap ((Ac:Int)+1)):Value) = .int .i64 ((Ac+1:Nat):Int)∧∃ x' : Nat,(x'≤s.os.length∧∀ j,j < x'→s.os.getD j order.oz=t.os.getD j order.oz)∧(s.os.length - x' < s.os.length - Ac)∧(([.pointer k14,.pointer k16,.int .i64 ((Ac+1:Nat):Int)]:List Value)=[.pointer k14,.pointer k16,.int .i64 (x' : Int)]∧k15=[some ⟨g1,0,(bg u t),.own 27⟩,some ⟨g0,0,(bg v s),.own 27⟩]∧iw w [] [])∧true=true))∧(k21=false→xg w [] []∧((0:Nat)≤s.cs.length∧∀ j,j < (0:Nat)→s.cs.getD j cz=t.cs.getD j cz)∧(k17=[.pointer k14,.pointer k16,.int .i64 k6]∧k15=[some ⟨g1,0,(bg u t),.own 27⟩,some ⟨g0,0,(bg v s),.own 27⟩]∧iw w [] [])∧true=true∧∀ (jc:Nat),let k22 := !decide ((s.cs.getD jc cz)=(t.cs.getD jc cz));let k23:=cell.cc (s.cs.getD jc cz);let k24:=cell.cc (t.cs.getD jc cz);let k25:=decide ((jc:Int) < k11);(jc≤s.cs.length∧∀ j,j < jc→s.cs.getD j cz=t.cs.getD j cz)→∀ τ19:Nat→Value,(k25=true→jd Tryz.prog w [] (Instr.indexAt 23 (.slice v.A2 s.cs.length v.c2) (.int .i64 (jc:Int))) (.pointer (some ⟨au v.A2,ay v.A2+jc * 4,none⟩))∧o7 w [] (au v.A2) (ay v.A2+jc * 4) k23∧jd Tryz.prog w [] (Instr.indexAt 23 (.slice u.A2 t.cs.length u.c2) (.int .i64 (jc:Int))) (.pointer (some ⟨au u.A2,ay u.A2+jc * 4,none⟩))∧o7 w [] (au u.A2) (ay u.A2+jc * 4) k24∧jd Tryz.prog w [] (do eqGuard BinOp.neq 60 (.tmp 114) (.tmp 119) (.agg k23) (.agg k24);Go.binOp BinOp.neq 60 (.agg k23) (.agg k24)) (.bool k22)∧(k22=true→k0 = .bool k1)∧(k22=false→(.int .i64 (IntKind.i64.wrap ((jc:Int)+1)):Value) = .int .i64 ((jc+1:Nat):Int)∧∃ x' : Nat,(x'≤s.cs.length∧∀ j,j < x'→s.cs.getD j cz=t.cs.getD j cz)∧(s.cs.length - x' < s.cs.length - jc)∧(([.pointer k14,.pointer k16,.int .i64 ((jc+1:Nat):Int)]:List Value)=[.pointer k14,.pointer k16,.int .i64 (x' : Int)]∧k15=[some ⟨g1,0,(bg u t),.own 27⟩,some ⟨g0,0,(bg v s),.own 27⟩]∧iw w [] [])∧true=true))∧(k25=false→xg w [] []∧((0:Nat)≤s.ls.length∧∀ j,j < (0:Nat)→s.ls.getD j xz=t.ls.getD j xz)∧(k17=[.pointer k14,.pointer k16,.int .i64 k6]∧k15=[some ⟨g1,0,(bg u t),.own 27⟩,some ⟨g0,0,(bg v s),.own 27⟩]∧iw w [] [])∧true=true∧∀ (y22:Nat),let k26 := !decide ((s.ls.getD y22 xz)=(t.ls.getD y22 xz));let k27:=cell.xc (s.ls.getD y22 xz);let k28:=cell.xc (t.ls.getD y22 xz);let k29:=decide ((y22:Int) < k12);(y22≤s.ls.length∧∀ j,j < y22→s.ls.getD j xz=t.ls.getD j xz)→∀ τ24:Nat→Value,(k29=true→jd Tryz.prog w [] (Instr.indexAt 24 (.slice v.A3 s.ls.length v.c3) (.int .i64 (y22:Int))) (.pointer (some ⟨au v.A3,ay v.A3+y22 * 3,none⟩))∧o7 w [] (au v.A3) (ay v.A3+y22 * 3) k27∧jd Tryz.prog w [] (Instr.indexAt 24 (.slice u.A3 t.ls.length u.c3) (.int .i64 (y22:Int))) (.pointer (some ⟨au u.A3,ay u.A3+y22 * 3,none⟩))∧o7 w [] (au u.A3) (ay u.A3+y22 * 3) k28∧jd Tryz.prog w [] (do eqGuard BinOp.neq 51 (.tmp 132) (.tmp 137) (.agg k27) (.agg k28);Go.binOp BinOp.neq 51 (.agg k27) (.agg k28)) (.bool k26)∧(k26=true→k0 = .bool k1)∧(k26=false→(.int .i64 (IntKind.i64.wrap ((y22:Int)+1)):Value) = .int .i64 ((y22+1:Nat):Int)∧∃ x' : Nat,(x'≤s.ls.length∧∀ j,j < x'→s.ls.getD j xz=t.ls.getD j xz)∧(s.ls.length - x' < s.ls.length - y22)∧(([.pointer k14,.pointer k16,.int .i64 ((y22+1:Nat):Int)]:List Value)=[.pointer k14,.pointer k16,.int .i64 (x' : Int)]∧k15=[some ⟨g1,0,(bg u t),.own 27⟩,some ⟨g0,0,(bg v s),.own 27⟩]∧iw w [] [])∧true=true))∧(k29=false→xg w [] []∧((0:Nat)≤s.ps.length∧∀ j,j < (0:Nat)→s.ps.getD j 0=t.ps.getD j 0)∧(k17=[.pointer k14,.pointer k16,.int .i64 k6]∧k15=[some ⟨g1,0,(bg u t),.own 27⟩,some ⟨g0,0,(bg v s),.own 27⟩]∧iw w [] [])∧true=true∧∀ (y27:Nat),let k30 := !decide ((s.ps.getD y27 0)=(t.ps.getD y27 0));let k31:=decide ((y27:Int) < k13);(y27≤s.ps.length∧∀ j,j < y27→s.ps.getD j 0=t.ps.getD j 0)→∀ τ29:Nat→Value,(k31=true→jd Tryz.prog w [] (Instr.indexAt 25 (.slice v.A4 s.ps.length v.c4) (.int .i64 (y27:Int))) (.pointer (some ⟨au v.A4,ay v.A4+y27 * 1,none⟩))∧o7 w [] (au v.A4) (ay v.A4+y27 * 1) #[.int .i64 (s.ps.getD y27 0)]∧jd Tryz.prog w [] (Instr.indexAt 25 (.slice u.A4 t.ps.length u.c4) (.int .i64 (y27:Int))) (.pointer (some ⟨au u.A4,ay u.A4+y27 * 1,none⟩))∧o7 w [] (au u.A4) (ay u.A4+y27 * 1) #[.int .i64 (t.ps.getD y27 0)]∧(k30=true→k0 = .bool k1)∧(k30=false→(.int .i64 (IntKind.i64.wrap ((y27:Int)+1)):Value) = .int .i64 ((y27+1:Nat):Int)∧∃ x' : Nat,(x'≤s.ps.length∧∀ j,j < x'→s.ps.getD j 0=t.ps.getD j 0)∧(s.ps.length - x' < s.ps.length - y27)∧(([.pointer k14,.pointer k16,.int .i64 ((y27+1:Nat):Int)]:List Value)=[.pointer k14,.pointer k16,.int .i64 (x' : Int)]∧k15=[some ⟨g1,0,(bg u t),.own 27⟩,some ⟨g0,0,(bg v s),.own 27⟩]∧iw w [] [])∧true=true))∧(k31=false→(.bool true:Value) = .bool k1))))))))))))∧(t.k=false→k0 = .bool k1))∧(s.k=false→(t.k=true→k0 = .bool k1)∧(t.k=false→(k7=true→k0 = .bool k1)∧(k7=false→(k8=true→k0 = .bool k1)∧(k8=false→(k9=true→k0 = .bool k1)∧(k9=false→(k2=true→k0 = .bool k1)∧(k2=false→(k3=true→k0 = .bool k1)∧(k3=false→(k4=true→k0 = .bool k1)∧(k4=false→(k5=true→k0 = .bool k1)∧(k5=false→xg w [] []∧((0:Nat)≤s.os.length∧∀ j,j < (0:Nat)→s.os.getD j order.oz=t.os.getD j order.oz)∧(k17=[.pointer k14,.pointer k16,.int .i64 k6]∧k15=[some ⟨g1,0,(bg u t),.own 27⟩,some ⟨g0,0,(bg v s),.own 27⟩]∧iw w [] [])∧true=true∧∀ (Gh:Nat),let k32 := !decide ((s.os.getD Gh order.oz)=(t.os.getD Gh order.oz));let k33:=order.oc (s.os.getD Gh order.oz);let k34:=order.oc (t.os.getD Gh order.oz);let Ad:=decide ((Gh:Int) < k10);(Gh≤s.os.length∧∀ j,j < Gh→s.os.getD j order.oz=t.os.getD j order.oz)→∀ τ42:Nat→Value,(Ad=true→jd Tryz.prog w [] (Instr.indexAt 22 (.slice v.A1 s.os.length v.c1) (.int .i64 (Gh:Int))) (.pointer (some ⟨au v.A1,ay v.A1+Gh * 12,none⟩))∧o7 w [] (au v.A1) (ay v.A1+Gh * 12) k33∧jd Tryz.prog w [] (Instr.indexAt 22 (.slice u.A1 t.os.length u.c1) (.int .i64 (Gh:Int))) (.pointer (some ⟨au u.A1,ay u.A1+Gh * 12,none⟩))∧o7 w [] (au u.A1) (ay u.A1+Gh * 12) k34∧jd Tryz.prog w [] (do eqGuard BinOp.neq 54 (.tmp 96) (.tmp 101) (.agg k33) (.agg k34);Go.binOp BinOp.neq 54 (.agg k33) (.agg k34)) (.bool k32)∧(k32=true→k0 = .bool k1)∧(k32=false→(.int .i64 (IntKind.i64.wrap ((Gh:Int)+1)):Value) = .int .i64 ((Gh+1:Nat):Int)∧∃ x' : Nat,(x'≤s.os.length∧∀ j,j < x'→s.os.getD j order.oz=t.os.getD j order.oz)∧(s.os.length - x' < s.os.length - Gh)∧(([.pointer k14,.pointer k16,.int .i64 ((Gh+1:Nat):Int)]:List Value)=[.pointer k14,.pointer k16,.int .i64 (x' : Int)]∧k15=[some ⟨g1,0,(bg u t),.own 27⟩,some ⟨g0,0,(bg v s),.own 27⟩]∧iw w [] [])∧true=true))∧(Ad=false→xg w [] []∧((0:Nat)≤s.cs.length∧∀ j,j < (0:Nat)→s.cs.getD j cz=t.cs.getD j cz)∧(k17=[.pointer k14,.pointer k16,.int .i64 k6]∧k15=[some ⟨g1,0,(bg u t),.own 27⟩,some ⟨g0,0,(bg v s),.own 27⟩]∧iw w [] [])∧true=true∧∀ (F5:Nat),let Aj := !decide ((s.cs.getD F5 cz)=(t.cs.getD F5 cz));let k37:=cell.cc (s.cs.getD F5 cz);let k38:=cell.cc (t.cs.getD F5 cz);let k39:=decide ((F5:Int) < k11);(F5≤s.cs.length∧∀ j,j < F5→s.cs.getD j cz=t.cs.getD j cz)→∀ τ47:Nat→Value,(k39=true→jd Tryz.prog w [] (Instr.indexAt 23 (.slice v.A2 s.cs.length v.c2) (.int .i64 (F5:Int))) (.pointer (some ⟨au v.A2,ay v.A2+F5 * 4,none⟩))∧o7 w [] (au v.A2) (ay v.A2+F5 * 4) k37∧jd Tryz.prog w [] (Instr.indexAt 23 (.slice u.A2 t.cs.length u.c2) (.int .i64 (F5:Int))) (.pointer (some ⟨au u.A2,ay u.A2+F5 * 4,none⟩))∧o7 w [] (au u.A2) (ay u.A2+F5 * 4) k38∧jd Tryz.prog w [] (do eqGuard BinOp.neq 60 (.tmp 114) (.tmp 119) (.agg k37) (.agg k38);Go.binOp BinOp.neq 60 (.agg k37) (.agg k38)) (.bool Aj)∧(Aj=true→k0 = .bool k1)∧(Aj=false→(.int .i64 (IntKind.i64.wrap ((F5:Int)+1)):Value) = .int .i64 ((F5+1:Nat):Int)∧∃ x' : Nat,(x'≤s.cs.length∧∀ j,j < x'→s.cs.getD j cz=t.cs.getD j cz)∧(s.cs.length - x' < s.cs.length - F5)∧(([.pointer k14,.pointer k16,.int .i64 ((F5+1:Nat):Int)]:List Value)=[.pointer k14,.pointer k16,.int .i64 (x' : Int)]∧k15=[some ⟨g1,0,(bg u t),.own 27⟩,some ⟨g0,0,(bg v s),.own 27⟩]∧iw w [] [])∧true=true))∧(k39=false→xg w [] []∧((0:Nat)≤s.ls.length∧∀ j,j < (0:Nat)→s.ls.getD j xz=t.ls.getD j xz)∧(k17=[.pointer k14,.pointer k16,.int .i64 k6]∧k15=[some ⟨g1,0,(bg u t),.own 27⟩,some ⟨g0,0,(bg v s),.own 27⟩]∧iw w [] [])∧true=true∧∀ (F6:Nat),let l9 := !decide ((s.ls.getD F6 xz)=(t.ls.getD F6 xz));let zx:=cell.xc (s.ls.getD F6 xz);let uz:=cell.xc (t.ls.getD F6 xz);let uf:=decide ((F6:Int) < k12);(F6≤s.ls.length∧∀ j,j < F6→s.ls.getD j xz=t.ls.getD j xz)→∀ τ52:Nat→Value,(uf=true→jd Tryz.prog w [] (Instr.indexAt 24 (.slice v.A3 s.ls.length v.c3) (.int .i64 (F6:Int))) (.pointer (some ⟨au v.A3,ay v.A3+F6 * 3,none⟩))∧o7 w [] (au v.A3) (ay v.A3+F6 * 3) zx∧jd Tryz.prog w [] (Instr.indexAt 24 (.slice u.A3 t.ls.length u.c3) (.int .i64 (F6:Int))) (.pointer (some ⟨au u.A3,ay u.A3+F6 * 3,none⟩))∧o7 w [] (au u.A3) (ay u.A3+F6 * 3) uz∧jd Tryz.prog w [] (do eqGuard BinOp.neq 51 (.tmp 132) (.tmp 137) (.agg zx) (.agg uz);Go.binOp BinOp.neq 51 (.agg zx) (.agg uz)) (.bool l9)∧(l9=true→k0 = .bool k1)∧(l9=false→(.int .i64 (IntKind.i64.wrap ((F6:Int)+1)):Value) = .int .i64 ((F6+1:Nat):Int)∧∃ x' : Nat,(x'≤s.ls.length∧∀ j,j < x'→s.ls.getD j xz=t.ls.getD j xz)∧(s.ls.length - x' < s.ls.length - F6)∧(([.pointer k14,.pointer k16,.int .i64 ((F6+1:Nat):Int)]:List Value)=[.pointer k14,.pointer k16,.int .i64 (x' : Int)]∧k15=[some ⟨g1,0,(bg u t),.own 27⟩,some ⟨g0,0,(bg v s),.own 27⟩]∧iw w [] [])∧true=true))∧(uf=false→xg w [] []∧((0:Nat)≤s.ps.length∧∀ j,j < (0:Nat)→s.ps.getD j 0=t.ps.getD j 0)∧(k17=[.pointer k14,.pointer k16,.int .i64 k6]∧k15=[some ⟨g1,0,(bg u t),.own 27⟩,some ⟨g0,0,(bg v s),.own 27⟩]∧iw w [] [])∧true=true∧∀ (qj:Nat),let Dt := !decide ((s.ps.getD qj 0)=(t.ps.getD qj 0));let Ag:=decide ((qj:Int) < k13);(qj≤s.ps.length∧∀ j,j < qj→s.ps.getD j 0=t.ps.getD j 0)→∀ τ57:Nat→Value,(Ag=true→jd Tryz.prog w [] (Instr.indexAt 25 (.slice v.A4 s.ps.length v.c4) (.int .i64 (qj:Int))) (.pointer (some ⟨au v.A4,ay v.A4+qj * 1,none⟩))∧o7 w [] (au v.A4) (ay v.A4+qj * 1) #[.int .i64 (s.ps.getD qj 0)]∧jd Tryz.prog w [] (Instr.indexAt 25 (.slice u.A4 t.ps.length u.c4) (.int .i64 (qj:Int))) (.pointer (some ⟨au u.A4,ay u.A4+qj * 1,none⟩))∧o7 w [] (au u.A4) (ay u.A4+qj * 1) #[.int .i64 (t.ps.getD qj 0)]∧(Dt=true→k0 = .bool k1)∧(Dt=false→(.int .i64 (IntKind.i64.wrap ((qj:Int)+1)):Value) = .int .i64 ((qj+1:Nat):Int)∧∃ x' : Nat,(x'≤s.ps.length∧∀ j,j < x'→s.ps.getD j 0=t.ps.getD j 0)∧(s.ps.length - x' < s.ps.length - qj)∧(([.pointer k14,.pointer k16,.int .i64 ((qj+1:Nat):Int)]:List Value)=[.pointer k14,.pointer k16,.int .i64 (x' : Int)]∧k15=[some ⟨g1,0,(bg u t),.own 27⟩,some ⟨g0,0,(bg v s),.own 27⟩]∧iw w [] [])∧true=true))∧(Ag=false→(.bool true:Value) = .bool k1)))))))))))))))) Tryz.func16 (by kernel_rfl)
 (fun g0=>fun g1=>⟨fun h1=>have h1:¬ s.a=t.a:=(by simpa using h1)
(by rw [jk];intro e;subst e;simp_all),
 fun h1=>have h1:s.a=t.a:=(by simpa using h1)
⟨fun h2=>have h2:¬ s.y=t.y:=(by simpa using h2)
(by rw [jk];intro e;subst e;simp_all),
 fun h2=>have h2:s.y=t.y:=(by simpa using h2)
⟨fun h3=>⟨fun h4=>⟨fun h5=>have h5:¬ s.last=t.last:=(by simpa using h5)
(by rw [jk];intro e;subst e;simp_all),
 fun h5=>have h5:s.last=t.last:=(by simpa using h5)
⟨fun h6=>have h6:¬ s.seq=t.seq:=(by simpa using h6)
(by rw [jk];intro e;subst e;simp_all),
 fun h6=>have h6:s.seq=t.seq:=(by simpa using h6)
⟨fun h7=>have h7:¬ s.ng=t.ng:=(by simpa using h7)
(by rw [jk];intro e;subst e;simp_all),
 fun h7=>have h7:s.ng=t.ng:=(by simpa using h7)
⟨fun h8=>have h8:¬ (s.os.length:Int)=(t.os.length:Int):=(by simpa using h8)
(by rw [jk];intro e;subst e;simp_all),
 fun h8=>have h8:(s.os.length:Int)=(t.os.length:Int):=(by simpa using h8)
⟨fun h9=>have h9:¬ (s.cs.length:Int)=(t.cs.length:Int):=(by simpa using h9)
(by rw [jk];intro e;subst e;simp_all),
 fun h9=>have h9:(s.cs.length:Int)=(t.cs.length:Int):=(by simpa using h9)
⟨fun h10=>have h10:¬ (s.ls.length:Int)=(t.ls.length:Int):=(by simpa using h10)
(by rw [jk];intro e;subst e;simp_all),
 fun h10=>have h10:(s.ls.length:Int)=(t.ls.length:Int):=(by simpa using h10)
⟨fun h11=>have h11:¬ (s.ps.length:Int)=(t.ps.length:Int):=(by simpa using h11)
(by rw [jk];intro e;subst e;simp_all),
 fun h11=>have h11:(s.ps.length:Int)=(t.ps.length:Int):=(by simpa using h11)
⟨(fun w _ _=>zh),⟨Nat.zero_le _,fun j hj=>absurd hj (Nat.not_lt_zero j)⟩,⟨rfl,rfl,(jm (List.nil_sublist _))⟩,rfl,fun Ac I13 τ14=>⟨fun h15=>have h15:(Ac:Int) < (s.os.length:Int):=(by simpa using h15)
⟨(yw Tryz.underlying22 qbd Dv (Nat.le_refl _) h.o rfl (by omega)),(qa0 Dv (Nat.le_refl _) h.o (ou (by omega))),⟨(yw Tryz.underlying22 qbd Dv (Nat.le_refl _) g.o rfl (by omega)),(qa0 Dv (Nat.le_refl _) g.o (ou (by omega))),⟨Ri (by kernel_rfl) (order.qnz (s.os.getD Ac order.oz) (t.os.getD Ac order.oz) (Bh h.o _ (l7 (by omega))) (Bh g.o _ (l7 (by omega)))) _ _,fun h16=>(by rw [jk];intro e;exact P6 (by simpa using h16) (congrArg St.os e)),
 fun h16=>⟨lg (by omega) (by omega) (by omega),⟨((Ac+1):Nat),⟨by omega,Gx I13.2 (by simpa using h16)⟩,(by omega),⟨rfl,rfl,(jm (List.nil_sublist _))⟩,rfl⟩⟩⟩⟩⟩,
 fun h15=>have h15:¬ (Ac:Int) < (s.os.length:Int):=(by simpa using h15)
⟨(fun w _ _=>zh),⟨Nat.zero_le _,fun j hj=>absurd hj (Nat.not_lt_zero j)⟩,⟨rfl,rfl,(jm (List.nil_sublist _))⟩,rfl,fun jc I18 τ19=>⟨fun h20=>have h20:(jc:Int) < (s.cs.length:Int):=(by simpa using h20)
⟨(yw Tryz.underlying23 yg qa2 (Nat.le_refl _) h.c rfl (by omega)),(qa0 qa2 (Nat.le_refl _) h.c (ou (by omega))),⟨(yw Tryz.underlying23 yg qa2 (Nat.le_refl _) g.c rfl (by omega)),(qa0 qa2 (Nat.le_refl _) g.c (ou (by omega))),⟨Ri (by kernel_rfl) (cell.Ed (s.cs.getD jc cz) (t.cs.getD jc cz) (Jg h.c _ (l7 (by omega))) (Jg g.c _ (l7 (by omega)))) _ _,fun h21=>(by rw [jk];intro e;exact P6 (by simpa using h21) (congrArg St.cs e)),
 fun h21=>⟨lg (by omega) (by omega) (by omega),⟨((jc+1):Nat),⟨by omega,Gx I18.2 (by simpa using h21)⟩,(by omega),⟨rfl,rfl,(jm (List.nil_sublist _))⟩,rfl⟩⟩⟩⟩⟩,
 fun h20=>have h20:¬ (jc:Int) < (s.cs.length:Int):=(by simpa using h20)
⟨(fun w _ _=>zh),⟨Nat.zero_le _,fun j hj=>absurd hj (Nat.not_lt_zero j)⟩,⟨rfl,rfl,(jm (List.nil_sublist _))⟩,rfl,fun y22 I23 τ24=>⟨fun Kt=>have Kt:(y22:Int) < (s.ls.length:Int):=(by simpa using Kt)
⟨(yw Tryz.underlying24 Es Gq (Nat.le_refl _) h.l rfl (by omega)),(qa0 Gq (Nat.le_refl _) h.l (ou (by omega))),⟨(yw Tryz.underlying24 Es Gq (Nat.le_refl _) g.l rfl (by omega)),(qa0 Gq (Nat.le_refl _) g.l (ou (by omega))),⟨Ri (by kernel_rfl) (cell.qps (s.ls.getD y22 xz) (t.ls.getD y22 xz) (Un h.l _ (l7 (by omega))) (Un g.l _ (l7 (by omega)))) _ _,fun h26=>(by rw [jk];intro e;exact P6 (by simpa using h26) (congrArg St.ls e)),
 fun h26=>⟨lg (by omega) (by omega) (by omega),⟨((y22+1):Nat),⟨by omega,Gx I23.2 (by simpa using h26)⟩,(by omega),⟨rfl,rfl,(jm (List.nil_sublist _))⟩,rfl⟩⟩⟩⟩⟩,
 fun Kt=>have Kt:¬ (y22:Int) < (s.ls.length:Int):=(by simpa using Kt)
⟨(fun w _ _=>zh),⟨Nat.zero_le _,fun j hj=>absurd hj (Nat.not_lt_zero j)⟩,⟨rfl,rfl,(jm (List.nil_sublist _))⟩,rfl,fun y27 I28 τ29=>⟨fun h30=>have h30:(y27:Int) < (s.ps.length:Int):=(by simpa using h30)
⟨(yw Tryz.underlying25 qb0 Gw (Nat.le_refl _) h.k rfl (by omega)),(qa0 Gw (Nat.le_refl _) h.k (ou (by omega))),⟨(yw Tryz.underlying25 qb0 Gw (Nat.le_refl _) g.k rfl (by omega)),(qa0 Gw (Nat.le_refl _) g.k (ou (by omega))),⟨fun h31=>have h31:¬ (s.ps.getD y27 0)=(t.ps.getD y27 0):=(by simpa using h31)
(by rw [jk];intro e;exact P6 h31 (congrArg St.ps e)),
 fun h31=>have h31:(s.ps.getD y27 0)=(t.ps.getD y27 0):=(by simpa using h31)
⟨lg (by omega) (by omega) (by omega),⟨((y27+1):Nat),⟨by omega,Gx I28.2 h31⟩,(by omega),⟨rfl,rfl,(jm (List.nil_sublist _))⟩,rfl⟩⟩⟩⟩⟩,
 fun h30=>have h30:¬ (y27:Int) < (s.ps.length:Int):=(by simpa using h30)
(by rw [D8 (by omega) (by omega) (h3.trans h4.symm) (by omega) (by omega) (by omega) (Ox (by omega) (fun j hj=>I13.2 j (by omega))) (Ox (by omega) (fun j hj=>I18.2 j (by omega))) (Ox (by omega) (fun j hj=>I23.2 j (by omega))) (Ox (by omega) (fun j hj=>I28.2 j (by omega)))])⟩⟩⟩⟩⟩⟩⟩⟩⟩⟩⟩⟩⟩⟩⟩,
 fun h4=>(by rw [jk];intro e;subst e;simp_all)⟩,
 fun h3=>⟨fun h32=>(by rw [jk];intro e;subst e;simp_all),
 fun h32=>⟨fun Ou=>have Ou:¬ s.last=t.last:=(by simpa using Ou)
(by rw [jk];intro e;subst e;simp_all),
 fun Ou=>have Ou:s.last=t.last:=(by simpa using Ou)
⟨fun Rx=>have Rx:¬ s.seq=t.seq:=(by simpa using Rx)
(by rw [jk];intro e;subst e;simp_all),
 fun Rx=>have Rx:s.seq=t.seq:=(by simpa using Rx)
⟨fun h35=>have h35:¬ s.ng=t.ng:=(by simpa using h35)
(by rw [jk];intro e;subst e;simp_all),
 fun h35=>have h35:s.ng=t.ng:=(by simpa using h35)
⟨fun O1=>have O1:¬ (s.os.length:Int)=(t.os.length:Int):=(by simpa using O1)
(by rw [jk];intro e;subst e;simp_all),
 fun O1=>have O1:(s.os.length:Int)=(t.os.length:Int):=(by simpa using O1)
⟨fun h37=>have h37:¬ (s.cs.length:Int)=(t.cs.length:Int):=(by simpa using h37)
(by rw [jk];intro e;subst e;simp_all),
 fun h37=>have h37:(s.cs.length:Int)=(t.cs.length:Int):=(by simpa using h37)
⟨fun h38=>have h38:¬ (s.ls.length:Int)=(t.ls.length:Int):=(by simpa using h38)
(by rw [jk];intro e;subst e;simp_all),
 fun h38=>have h38:(s.ls.length:Int)=(t.ls.length:Int):=(by simpa using h38)
⟨fun h39=>have h39:¬ (s.ps.length:Int)=(t.ps.length:Int):=(by simpa using h39)
(by rw [jk];intro e;subst e;simp_all),
 fun h39=>have h39:(s.ps.length:Int)=(t.ps.length:Int):=(by simpa using h39)
⟨(fun w _ _=>zh),⟨Nat.zero_le _,fun j hj=>absurd hj (Nat.not_lt_zero j)⟩,⟨rfl,rfl,(jm (List.nil_sublist _))⟩,rfl,fun Gh I41 τ42=>⟨fun h43=>have h43:(Gh:Int) < (s.os.length:Int):=(by simpa using h43)
⟨(yw Tryz.underlying22 qbd Dv (Nat.le_refl _) h.o rfl (by omega)),(qa0 Dv (Nat.le_refl _) h.o (ou (by omega))),⟨(yw Tryz.underlying22 qbd Dv (Nat.le_refl _) g.o rfl (by omega)),(qa0 Dv (Nat.le_refl _) g.o (ou (by omega))),⟨Ri (by kernel_rfl) (order.qnz (s.os.getD Gh order.oz) (t.os.getD Gh order.oz) (Bh h.o _ (l7 (by omega))) (Bh g.o _ (l7 (by omega)))) _ _,fun h44=>(by rw [jk];intro e;exact P6 (by simpa using h44) (congrArg St.os e)),
 fun h44=>⟨lg (by omega) (by omega) (by omega),⟨((Gh+1):Nat),⟨by omega,Gx I41.2 (by simpa using h44)⟩,(by omega),⟨rfl,rfl,(jm (List.nil_sublist _))⟩,rfl⟩⟩⟩⟩⟩,
 fun h43=>have h43:¬ (Gh:Int) < (s.os.length:Int):=(by simpa using h43)
⟨(fun w _ _=>zh),⟨Nat.zero_le _,fun j hj=>absurd hj (Nat.not_lt_zero j)⟩,⟨rfl,rfl,(jm (List.nil_sublist _))⟩,rfl,fun F5 I46 τ47=>⟨fun h48=>have h48:(F5:Int) < (s.cs.length:Int):=(by simpa using h48)
⟨(yw Tryz.underlying23 yg qa2 (Nat.le_refl _) h.c rfl (by omega)),(qa0 qa2 (Nat.le_refl _) h.c (ou (by omega))),⟨(yw Tryz.underlying23 yg qa2 (Nat.le_refl _) g.c rfl (by omega)),(qa0 qa2 (Nat.le_refl _) g.c (ou (by omega))),⟨Ri (by kernel_rfl) (cell.Ed (s.cs.getD F5 cz) (t.cs.getD F5 cz) (Jg h.c _ (l7 (by omega))) (Jg g.c _ (l7 (by omega)))) _ _,fun h49=>(by rw [jk];intro e;exact P6 (by simpa using h49) (congrArg St.cs e)),
 fun h49=>⟨lg (by omega) (by omega) (by omega),⟨((F5+1):Nat),⟨by omega,Gx I46.2 (by simpa using h49)⟩,(by omega),⟨rfl,rfl,(jm (List.nil_sublist _))⟩,rfl⟩⟩⟩⟩⟩,
 fun h48=>have h48:¬ (F5:Int) < (s.cs.length:Int):=(by simpa using h48)
⟨(fun w _ _=>zh),⟨Nat.zero_le _,fun j hj=>absurd hj (Nat.not_lt_zero j)⟩,⟨rfl,rfl,(jm (List.nil_sublist _))⟩,rfl,fun F6 I51 τ52=>⟨fun h53=>have h53:(F6:Int) < (s.ls.length:Int):=(by simpa using h53)
⟨(yw Tryz.underlying24 Es Gq (Nat.le_refl _) h.l rfl (by omega)),(qa0 Gq (Nat.le_refl _) h.l (ou (by omega))),⟨(yw Tryz.underlying24 Es Gq (Nat.le_refl _) g.l rfl (by omega)),(qa0 Gq (Nat.le_refl _) g.l (ou (by omega))),⟨Ri (by kernel_rfl) (cell.qps (s.ls.getD F6 xz) (t.ls.getD F6 xz) (Un h.l _ (l7 (by omega))) (Un g.l _ (l7 (by omega)))) _ _,fun h54=>(by rw [jk];intro e;exact P6 (by simpa using h54) (congrArg St.ls e)),
 fun h54=>⟨lg (by omega) (by omega) (by omega),⟨((F6+1):Nat),⟨by omega,Gx I51.2 (by simpa using h54)⟩,(by omega),⟨rfl,rfl,(jm (List.nil_sublist _))⟩,rfl⟩⟩⟩⟩⟩,
 fun h53=>have h53:¬ (F6:Int) < (s.ls.length:Int):=(by simpa using h53)
⟨(fun w _ _=>zh),⟨Nat.zero_le _,fun j hj=>absurd hj (Nat.not_lt_zero j)⟩,⟨rfl,rfl,(jm (List.nil_sublist _))⟩,rfl,fun qj I56 τ57=>⟨fun Ry=>have Ry:(qj:Int) < (s.ps.length:Int):=(by simpa using Ry)
⟨(yw Tryz.underlying25 qb0 Gw (Nat.le_refl _) h.k rfl (by omega)),(qa0 Gw (Nat.le_refl _) h.k (ou (by omega))),⟨(yw Tryz.underlying25 qb0 Gw (Nat.le_refl _) g.k rfl (by omega)),(qa0 Gw (Nat.le_refl _) g.k (ou (by omega))),⟨fun Y6=>have Y6:¬ (s.ps.getD qj 0)=(t.ps.getD qj 0):=(by simpa using Y6)
(by rw [jk];intro e;exact P6 Y6 (congrArg St.ps e)),
 fun Y6=>have Y6:(s.ps.getD qj 0)=(t.ps.getD qj 0):=(by simpa using Y6)
⟨lg (by omega) (by omega) (by omega),⟨((qj+1):Nat),⟨by omega,Gx I56.2 Y6⟩,(by omega),⟨rfl,rfl,(jm (List.nil_sublist _))⟩,rfl⟩⟩⟩⟩⟩,
 fun Ry=>have Ry:¬ (qj:Int) < (s.ps.length:Int):=(by simpa using Ry)
(by rw [D8 (by omega) (by omega) (h3.trans h32.symm) (by omega) (by omega) (by omega) (Ox (by omega) (fun j hj=>I41.2 j (by omega))) (Ox (by omega) (fun j hj=>I46.2 j (by omega))) (Ox (by omega) (fun j hj=>I51.2 j (by omega))) (Ox (by omega) (fun j hj=>I56.2 j (by omega)))])⟩⟩⟩⟩⟩⟩⟩⟩⟩⟩⟩⟩⟩⟩⟩⟩⟩⟩⟩)
end Go.Proofs.YtbbjlfbemibfcaaGreat.book
end
section
namespace Go.Proofs.YtbbjlfbemibfcaaGreat
set_option maxRecDepth 20000
open Go.RowKit
abbrev Oc:Type:=book.St
def Jw:Rd Oc:=fun w S cs s => ∃ v:Sv,cs=(bg v s).toList∧lu w S v s
theorem qtr:Qk Tryz.prog 27 Jw:=fun H enc w fuel cs x h=>by
 have hl:=qiu Tryz.underlying27 h
 rw [show Tryz.prog.cellsOf 27=10 by kernel_rfl] at hl
 obtain ⟨a,e0,h0⟩:=Fj Tryz.underlying27 h 0 _ rfl 1 (by kernel_rfl) (of_int Tryz.underlying3)
 obtain ⟨y,e1,h1⟩:=Fj Tryz.underlying27 h 1 _ rfl 1 (by kernel_rfl) (of_int Tryz.underlying3)
 obtain ⟨os,A1,n1,c1,e2,h2⟩:=Fj Tryz.underlying27 h 2 _ rfl 1 (by kernel_rfl) (of_slice q1x Tryz.underlying22 (size:=12) (by kernel_rfl) (by decide))
 obtain ⟨cs',A2,n2,c2,e3,h3⟩:=Fj Tryz.underlying27 h 3 _ rfl 1 (by kernel_rfl) (of_slice of_cell Tryz.underlying23 (size:=4) (by kernel_rfl) (by decide))
 obtain ⟨ls,A3,n3,c3,e4,h4⟩:=Fj Tryz.underlying27 h 4 _ rfl 1 (by kernel_rfl) (of_slice q46 Tryz.underlying24 (size:=3) (by kernel_rfl) (by decide))
 obtain ⟨ps,A4,n4,c4,e5,h5⟩:=Fj Tryz.underlying27 h 5 _ rfl 1 (by kernel_rfl) (of_slice (of_int Tryz.underlying2) Tryz.underlying25 (size:=1) (by kernel_rfl) (by decide))
 obtain ⟨k,e6⟩:=Fj Tryz.underlying27 h 6 _ rfl 1 (by kernel_rfl) (of_bool Tryz.underlying4)
 obtain ⟨l,e7,h7⟩:=Fj Tryz.underlying27 h 7 _ rfl 1 (by kernel_rfl) (of_int Tryz.underlying2)
 obtain ⟨q,e8,h8⟩:=Fj Tryz.underlying27 h 8 _ rfl 1 (by kernel_rfl) (of_int Tryz.underlying2)
 obtain ⟨n,e9,h9⟩:=Fj Tryz.underlying27 h 9 _ rfl 1 (by kernel_rfl) (of_int Tryz.underlying2)
 obtain ⟨g2,rfl,i2,j2⟩:=h2
 obtain ⟨g3,rfl,i3,j3⟩:=h3
 obtain ⟨g4,rfl,i4,j4⟩:=h4
 obtain ⟨g5,rfl,i5,j5⟩:=h5
 match cs,hl with
 | [d0,d1,d2,d3,d4,d5,d6,d7,d8,d9],_ =>
  simp [rdBool] at e0 e1 e2 e3 e4 e5 e6 e7 e8 e9
  subst e0 e1 e2 e3 e4 e5 e6 e7 e8 e9
  exact ⟨⟨a,y,os,cs',ls,ps,k,l,q,n⟩,⟨A1,c1,A2,c2,A3,c3,A4,c4⟩,rfl,⟨g2,g3,g4,g5,⟨i2,j2⟩,⟨i3,j3⟩,⟨i4,j4⟩,⟨i5,j5⟩,qb2 h0,qb2 h1,qb2 h7,qb2 h8,qb2 h9⟩⟩
end Go.Proofs.YtbbjlfbemibfcaaGreat
end
