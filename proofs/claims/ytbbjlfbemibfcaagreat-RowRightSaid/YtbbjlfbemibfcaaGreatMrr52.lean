/-
  zmz
-/
import Derived.Test.YtbbjlfbemibfcaaGreatMrr16
import Derived.Test.YtbbjlfbemibfcaaGreatMrr51
import Derived.Test.YtbbjlfbemibfcaaGreatMrr21
set_option linter.unusedVariables false
set_option linter.unusedSimpArgs false
namespace Go.Proofs.YtbbjlfbemibfcaaGreat.book
open Go.RowKit Go.Proofs.YtbbjlfbemibfcaaGreat
open Go.Proofs.YtbbjlfbemibfcaaGreat.order (Or open_ worth)
open Go.Proofs.YtbbjlfbemibfcaaGreat.cell (Ce Ex)
open Go.Proofs.YtbbjlfbemibfcaaGreat.rec (Rc)
set_option maxRecDepth 20000
open Go.Proofs.YtbbjlfbemibfcaaGreat.order (oz)
theorem q9j (v:Sv) (s:St)  (w:World) (h:lu w (Lt w.heap.size) v s):Calls Tryz.prog 11 #[.agg (bg v s)] w fun e w'=>e = .returned (.bool (right s))∧Below w.heap.size w w' :=
 have hlen:=h.len
 uw (fn:=Tryz.f11) (r:=.bool (right s)) (t:=.s (.k (.k (.k (.k (.k (.k (.k .z))))))) (.k (.s (.k (.k (.k (.k (.k (.k .z)))))) (.k (.s (.k (.k (.k (.k (.k .z))))) (.k (.s (.k (.k (.k (.k .z)))) (.k (.e (.int .i64 (s.a * s.y)) (.s (.k (.k (.k .z))) (.k (.e (.int .i64 (s.a * s.y)) (.s (.k (.k .z)) (.k (.s (.k .z) (.k (.s .z (.s (.k (.k (.k (.k (.k .z))))) (.k (.s (.k (.k (.k (.k .z)))) (.k (.s (.k (.k (.k .z))) (.k (.s (.k (.k .z)) (.k (.s (.k .z) (.k (.s .z (.l (Nat) (fun x=>[(1,undef,some (0,0)),(3,.int .i64 (x:Int),none)]) (fun x=>[]) [0] [] (fun x=>[]) (fun x=>x≤s.os.length∧∀ j,j < x→okO s j) (fun x=>s.os.length - x) (0:Nat) (fun ny=>let k0:=(ny - 1:Nat);let k1:Value:=.int .i64 ((ny+1:Nat):Int);let k2:=s.os.getD ny order.oz; .s (.p (au v.A1) (ay v.A1+ny * 12) (order.oc k2) (.o [] (.cs (order.right k2) (.k (.s (.k (.k (.k (.k .z)))) (.k (.s (.k (.k (.k .z))) (.k (.s (.k (.k .z)) (.k (.s (.k .z) (.k (.s (.k (.e (.int .i64 (k0:Int)) (.p (au v.A1) (ay v.A1+k0 * 12) (order.oc (s.os.getD k0 order.oz)) (.s .z (.e k1 .z))))) (.k (.e k1 .z)))))))))))) (.k (.k (.k (.k (.k .z)))))))) (.l (Nat) (fun x=>[(1,undef,some (0,0)),(5,.int .i64 (x:Int),none)]) (fun x=>[]) [0] [] (fun x=>[]) (fun x=>x≤s.ls.length∧∀ j,j < x→limit.right (s.ls.getD j xz)=true) (fun x=>s.ls.length - x) (0:Nat) (fun J7=>.s (.p (au v.A3) (ay v.A3+J7 * 3) (cell.xc (s.ls.getD J7 xz)) (.cs (limit.right (s.ls.getD J7 xz)) (.e (.int .i64 ((J7+1:Nat):Int)) .z) .z)) (.l (Nat) (fun x=>[(1,undef,some (0,0)),(6,.int .i64 (x:Int),none)]) (fun x=>[]) [0] [] (fun x=>[]) (fun x=>x≤s.ps.length∧∀ j,j < x→0≤s.ps.getD j 0) (fun x=>s.ps.length - x) (0:Nat) (fun y31=>.s (.p (au v.A4) (ay v.A4+y31 * 1) #[.int .i64 (s.ps.getD y31 0)] (.s .z (.e (.int .i64 ((y31+1:Nat):Int)) .z))) (.gs (qy s) (.cm (Option Addr × Nat) (fun x=>.tuple #[.slice x.1 s.cs.length x.2,.bool true]) (fun x=>[oC x.1 s.cs.length x.2 (CL s)]) (fun Ci=>.k (.k (.l (Nat) (fun x=>[(1,undef,some (0,0)),(7,.slice Ci.1 s.cs.length Ci.2,none),(9,.int .i64 (x:Int),none)]) (fun x=>[]) [0] [] (fun x=>[oC Ci.1 s.cs.length Ci.2 (CL s)]) (fun x=>x≤s.cs.length∧∀ j,j < x→(CL s).getD j cz=s.cs.getD j cz) (fun x=>s.cs.length - x) (0:Nat) (fun y38=>.s (.o [] (.q (au Ci.1) (ay Ci.1+y38 * 4) (cell.cc ((CL s).getD y38 cz)) (.p (au v.A2) (ay v.A2+y38 * 4) (cell.cc (s.cs.getD y38 cz)) (.xs (!decide (((CL s).getD y38 cz)=(s.cs.getD y38 cz))) .z (.e (.int .i64 ((y38+1:Nat):Int)) .z))))) .z))))) (.c (.tuple #[.slice none 0 0,.bool false]) (.k (.k .z)))))))))))))))))))))))))))))))))))))) (X :=
 let k0:=(.bool false:Value);let k1:=(s.cs.length:Int);let k2:=(s.ls.length:Int);let k3:=(s.ps.length:Int);let k4:=(s.os.length:Int);let k5:=(.int .i64 (IntKind.i64.wrap (s.a * s.y)):Value);let k6:=((0:Nat):Int);let k7:=decide (s.last > 1000000000000);let k8:=decide (s.seq > 1000000000);let k9:=decide (s.ng > 1000000000);let k10 := !decide (k1=(s.a * s.y));let k11 := !decide (k2=(s.a * s.y)); ∀ g0:Nat,let k12:=([some ⟨g0,0,(bg v s),.own 27⟩]:List (Option jv));let k13:Option Addr:=some ⟨g0,0,none⟩;let k14:=([.pointer k13,.int .i64 0]:List Value);((decide (s.a < 1))=true→k0 = .bool (right s))∧((decide (s.a < 1))=false→((decide (s.a > 8))=true→k0 = .bool (right s))∧((decide (s.a > 8))=false→((decide (s.y < 1))=true→k0 = .bool (right s))∧((decide (s.y < 1))=false→((decide (s.y > 8))=true→k0 = .bool (right s))∧((decide (s.y > 8))=false→k5 = .int .i64 (s.a * s.y)∧(k10=true→k0 = .bool (right s))∧(k10=false→k5 = .int .i64 (s.a * s.y)∧(k11=true→k0 = .bool (right s))∧(k11=false→((!decide (k3=s.a))=true→k0 = .bool (right s))∧((!decide (k3=s.a))=false→((decide (k4 > 64))=true→k0 = .bool (right s))∧((decide (k4 > 64))=false→((decide (s.last < 0))=true→k0 = .bool (right s))∧((decide (s.last < 0))=false→(k7=true→k0 = .bool (right s))∧(k7=false→((decide (s.seq < 0))=true→k0 = .bool (right s))∧((decide (s.seq < 0))=false→(k8=true→k0 = .bool (right s))∧(k8=false→((decide (s.ng < 0))=true→k0 = .bool (right s))∧((decide (s.ng < 0))=false→(k9=true→k0 = .bool (right s))∧(k9=false→xg w [] []∧((0:Nat)≤s.os.length∧∀ j,j < (0:Nat)→okO s j)∧(k14=[.pointer k13,.int .i64 k6]∧k12=[some ⟨g0,0,(bg v s),.own 27⟩]∧iw w [] [])∧true=true∧∀ (ny:Nat),let k15:=s.os.getD ny order.oz;let k16:=(ny - 1:Nat);let k20:=((ny+1:Nat):Int);let k17:=([.pointer k13,.int .i64 k20]:List Value);let k18:=(.int .i64 (IntKind.i64.wrap ((ny:Int)+1)):Value);let k19:=decide (k15.i≤(s.os.getD k16 order.oz).i);let k21:=order.right k15;let k22:=decide ((ny:Int) < k4);let k23:=decide ((ny:Int) > 0);(ny≤s.os.length∧∀ j,j < ny→okO s j)→∀ τ17:Nat→Value,(k22=true→jd Tryz.prog w [] (Instr.indexAt 22 (.slice v.A1 s.os.length v.c1) (.int .i64 (ny:Int))) (.pointer (some ⟨au v.A1,ay v.A1+ny * 12,none⟩))∧o7 w [] (au v.A1) (ay v.A1+ny * 12) (order.oc k15)∧∀ g2:Nat,iq Tryz.prog w [] 23 #[.agg (order.oc k15)] (.bool k21)∧(k21=true→((decide (k15.h=3))=true→k0 = .bool (right s))∧((decide (k15.h=3))=false→((decide (k15.a ≥ s.a))=true→k0 = .bool (right s))∧((decide (k15.a ≥ s.a))=false→((decide (k15.y ≥ s.y))=true→k0 = .bool (right s))∧((decide (k15.y ≥ s.y))=false→((decide (k15.i > s.last))=true→k0 = .bool (right s))∧((decide (k15.i > s.last))=false→(k23=true→(.int .i64 (IntKind.i64.wrap ((ny:Int) - 1)):Value) = .int .i64 (k16:Int)∧jd Tryz.prog w [] (Instr.indexAt 22 (.slice v.A1 s.os.length v.c1) (.int .i64 (k16:Int))) (.pointer (some ⟨au v.A1,ay v.A1+k16 * 12,none⟩))∧o7 w [] (au v.A1) (ay v.A1+k16 * 12) (order.oc (s.os.getD k16 order.oz))∧(k19=true→k0 = .bool (right s))∧(k19=false→k18 = .int .i64 k20∧∃ x' : Nat,(x'≤s.os.length∧∀ j,j < x'→okO s j)∧(s.os.length - x' < s.os.length - ny)∧(k17=[.pointer k13,.int .i64 (x' : Int)]∧k12=[some ⟨g0,0,(bg v s),.own 27⟩]∧iw w [] [])∧true=true))∧(k23=false→k18 = .int .i64 k20∧∃ x' : Nat,(x'≤s.os.length∧∀ j,j < x'→okO s j)∧(s.os.length - x' < s.os.length - ny)∧(k17=[.pointer k13,.int .i64 (x' : Int)]∧k12=[some ⟨g0,0,(bg v s),.own 27⟩]∧iw w [] [])∧true=true))))))∧(k21=false→k0 = .bool (right s)))∧(k22=false→xg w [] []∧((0:Nat)≤s.ls.length∧∀ j,j < (0:Nat)→limit.right (s.ls.getD j xz)=true)∧(k14=[.pointer k13,.int .i64 k6]∧k12=[some ⟨g0,0,(bg v s),.own 27⟩]∧iw w [] [])∧true=true∧∀ (J7:Nat),let k24:=s.ls.getD J7 xz;let k25:=limit.right k24;let k26:=decide ((J7:Int) < k2);(J7≤s.ls.length∧∀ j,j < J7→limit.right (s.ls.getD j xz)=true)→∀ τ28:Nat→Value,(k26=true→jd Tryz.prog w [] (Instr.indexAt 24 (.slice v.A3 s.ls.length v.c3) (.int .i64 (J7:Int))) (.pointer (some ⟨au v.A3,ay v.A3+J7 * 3,none⟩))∧o7 w [] (au v.A3) (ay v.A3+J7 * 3) (cell.xc k24)∧iq Tryz.prog w [] 24 #[.agg (cell.xc k24)] (.bool k25)∧(k25=true→(.int .i64 (IntKind.i64.wrap ((J7:Int)+1)):Value) = .int .i64 ((J7+1:Nat):Int)∧∃ x' : Nat,(x'≤s.ls.length∧∀ j,j < x'→limit.right (s.ls.getD j xz)=true)∧(s.ls.length - x' < s.ls.length - J7)∧(([.pointer k13,.int .i64 ((J7+1:Nat):Int)]:List Value)=[.pointer k13,.int .i64 (x' : Int)]∧k12=[some ⟨g0,0,(bg v s),.own 27⟩]∧iw w [] [])∧true=true)∧(k25=false→k0 = .bool (right s)))∧(k26=false→xg w [] []∧((0:Nat)≤s.ps.length∧∀ j,j < (0:Nat)→0≤s.ps.getD j 0)∧(k14=[.pointer k13,.int .i64 k6]∧k12=[some ⟨g0,0,(bg v s),.own 27⟩]∧iw w [] [])∧true=true∧∀ (y31:Nat),let k27:=decide ((s.ps.getD y31 0) < 0);let k28:=decide ((y31:Int) < k3);(y31≤s.ps.length∧∀ j,j < y31→0≤s.ps.getD j 0)→∀ τ33:Nat→Value,(k28=true→jd Tryz.prog w [] (Instr.indexAt 25 (.slice v.A4 s.ps.length v.c4) (.int .i64 (y31:Int))) (.pointer (some ⟨au v.A4,ay v.A4+y31 * 1,none⟩))∧o7 w [] (au v.A4) (ay v.A4+y31 * 1) #[.int .i64 (s.ps.getD y31 0)]∧(k27=true→k0 = .bool (right s))∧(k27=false→(.int .i64 (IntKind.i64.wrap ((y31:Int)+1)):Value) = .int .i64 ((y31+1:Nat):Int)∧∃ x' : Nat,(x'≤s.ps.length∧∀ j,j < x'→0≤s.ps.getD j 0)∧(s.ps.length - x' < s.ps.length - y31)∧(([.pointer k13,.int .i64 ((y31+1:Nat):Int)]:List Value)=[.pointer k13,.int .i64 (x' : Int)]∧k12=[some ⟨g0,0,(bg v s),.own 27⟩]∧iw w [] [])∧true=true))∧(k28=false→((qy s)=true→qg Tryz.prog w [] 25 #[.agg (bg v s)] (Option Addr × Nat) (fun x=>.tuple #[.slice x.1 s.cs.length x.2,.bool true]) (fun x=>[oC x.1 s.cs.length x.2 (CL s)])∧∀ Ci:Option Addr × Nat,let k29:List Fact:=[oC Ci.1 s.cs.length Ci.2 (CL s)];xg w k29 []∧((0:Nat)≤s.cs.length∧∀ j,j < (0:Nat)→(CL s).getD j cz=s.cs.getD j cz)∧(([.pointer k13,.slice Ci.1 s.cs.length Ci.2,.int .i64 0]:List Value)=[.pointer k13,.slice Ci.1 s.cs.length Ci.2,.int .i64 k6]∧k12=[some ⟨g0,0,(bg v s),.own 27⟩]∧iw w k29 k29)∧true=true∧∀ (y38:Nat),let k30 := !decide (((CL s).getD y38 cz)=(s.cs.getD y38 cz));let k31:=cell.cc ((CL s).getD y38 cz);let k32:=cell.cc (s.cs.getD y38 cz);let k33:=decide ((y38:Int) < k1);(y38≤s.cs.length∧∀ j,j < y38→(CL s).getD j cz=s.cs.getD j cz)→∀ τ40:Nat→Value,(k33=true→jd Tryz.prog w k29 (Instr.indexAt 23 (.slice Ci.1 s.cs.length Ci.2) (.int .i64 (y38:Int))) (.pointer (some ⟨au Ci.1,ay Ci.1+y38 * 4,none⟩))∧o7 w k29 (au Ci.1) (ay Ci.1+y38 * 4) k31∧jd Tryz.prog w k29 (Instr.indexAt 23 (.slice v.A2 s.cs.length v.c2) (.int .i64 (y38:Int))) (.pointer (some ⟨au v.A2,ay v.A2+y38 * 4,none⟩))∧o7 w [] (au v.A2) (ay v.A2+y38 * 4) k32∧jd Tryz.prog w k29 (do eqGuard BinOp.neq 60 (.tmp 192) (.tmp 197) (.agg k31) (.agg k32);Go.binOp BinOp.neq 60 (.agg k31) (.agg k32)) (.bool k30)∧(k30=true→k0 = .bool (right s))∧(k30=false→(.int .i64 (IntKind.i64.wrap ((y38:Int)+1)):Value) = .int .i64 ((y38+1:Nat):Int)∧∃ x' : Nat,(x'≤s.cs.length∧∀ j,j < x'→(CL s).getD j cz=s.cs.getD j cz)∧(s.cs.length - x' < s.cs.length - y38)∧(([.pointer k13,.slice Ci.1 s.cs.length Ci.2,.int .i64 ((y38+1:Nat):Int)]:List Value)=[.pointer k13,.slice Ci.1 s.cs.length Ci.2,.int .i64 (x' : Int)]∧k12=[some ⟨g0,0,(bg v s),.own 27⟩]∧iw w k29 k29)∧true=true))∧(k33=false→(.bool true:Value) = .bool (right s)))∧((qy s)=false→iq Tryz.prog w [] 25 #[.agg (bg v s)] (.tuple #[.slice none 0 0,.bool false])∧k0 = .bool (right s)))))))))))))))))))) Tryz.func11 (by kernel_rfl)
 (fun g0=>⟨fun h1=>have h1:s.a < 1:=(by simpa using h1)
(by rw [jo.2 (fun hr=>by have h1:=hr.1;have h2:=hr.2.1;have h3:=hr.2.2.1;have h4:=hr.2.2.2.1.2.2;omega)]),
 fun h1=>have h1:¬ s.a < 1:=(by simpa using h1)
⟨fun h2=>have h2:8 < s.a:=(by simpa using h2)
(by rw [jo.2 (fun hr=>by have h1:=hr.1;have h2:=hr.2.1;have h3:=hr.2.2.1;have h4:=hr.2.2.2.1.2.2;omega)]),
 fun h2=>have h2:¬ 8 < s.a:=(by simpa using h2)
⟨fun h3=>have h3:s.y < 1:=(by simpa using h3)
(by rw [jo.2 (fun hr=>by have h1:=hr.1;have h2:=hr.2.1;have h3:=hr.2.2.1;have h4:=hr.2.2.2.1.2.2;omega)]),
 fun h3=>have h3:¬ s.y < 1:=(by simpa using h3)
⟨fun h4=>have h4:8 < s.y:=(by simpa using h4)
(by rw [jo.2 (fun hr=>by have h1:=hr.1;have h2:=hr.2.1;have h3:=hr.2.2.1;have h4:=hr.2.2.2.1.2.2;omega)]),
 fun h4=>have h4:¬ 8 < s.y:=(by simpa using h4)
⟨lg rfl (by have:=vg (a:=s.a) (y:=s.y) (A:=8) (Y:=8) (by omega) (by omega) (by omega) (by omega);omega) (by have:=vg (a:=s.a) (y:=s.y) (A:=8) (Y:=8) (by omega) (by omega) (by omega) (by omega);omega),⟨fun h5=>have h5:¬ (s.cs.length:Int)=(s.a * s.y):=(by simpa using h5)
(by rw [jo.2 (fun hr=>by have h1:=hr.1;have h2:=hr.2.1;have h3:=hr.2.2.1;have h4:=hr.2.2.2.1.2.2;omega)]),
 fun h5=>have h5:(s.cs.length:Int)=(s.a * s.y):=(by simpa using h5)
⟨lg rfl (by have:=vg (a:=s.a) (y:=s.y) (A:=8) (Y:=8) (by omega) (by omega) (by omega) (by omega);omega) (by have:=vg (a:=s.a) (y:=s.y) (A:=8) (Y:=8) (by omega) (by omega) (by omega) (by omega);omega),⟨fun h6=>have h6:¬ (s.ls.length:Int)=(s.a * s.y):=(by simpa using h6)
(by rw [jo.2 (fun hr=>by have h1:=hr.1;have h2:=hr.2.1;have h3:=hr.2.2.1;have h4:=hr.2.2.2.1.2.2;omega)]),
 fun h6=>have h6:(s.ls.length:Int)=(s.a * s.y):=(by simpa using h6)
⟨fun h7=>have h7:¬ (s.ps.length:Int)=s.a:=(by simpa using h7)
(by rw [jo.2 (fun hr=>by have h1:=hr.1;have h2:=hr.2.1;have h3:=hr.2.2.1;have h4:=hr.2.2.2.1.2.2;omega)]),
 fun h7=>have h7:(s.ps.length:Int)=s.a:=(by simpa using h7)
⟨fun h8=>have h8:64 < (s.os.length:Int):=(by simpa using h8)
(by rw [jo.2 (fun hr=>by have h1:=hr.1;have h2:=hr.2.1;have h3:=hr.2.2.1;have h4:=hr.2.2.2.1.2.2;omega)]),
 fun h8=>have h8:¬ 64 < (s.os.length:Int):=(by simpa using h8)
⟨fun h9=>have h9:s.last < 0:=(by simpa using h9)
(by rw [jo.2 (fun hr=>by have h1:=hr.1;have h2:=hr.2.1;have h3:=hr.2.2.1;have h4:=hr.2.2.2.1.2.2;omega)]),
 fun h9=>have h9:¬ s.last < 0:=(by simpa using h9)
⟨fun h10=>have h10:1000000000000 < s.last:=(by simpa using h10)
(by rw [jo.2 (fun hr=>by have h1:=hr.1;have h2:=hr.2.1;have h3:=hr.2.2.1;have h4:=hr.2.2.2.1.2.2;omega)]),
 fun h10=>have h10:¬ 1000000000000 < s.last:=(by simpa using h10)
⟨fun h11=>have h11:s.seq < 0:=(by simpa using h11)
(by rw [jo.2 (fun hr=>by have h1:=hr.1;have h2:=hr.2.1;have h3:=hr.2.2.1;have h4:=hr.2.2.2.1.2.2;omega)]),
 fun h11=>have h11:¬ s.seq < 0:=(by simpa using h11)
⟨fun h12=>have h12:1000000000 < s.seq:=(by simpa using h12)
(by rw [jo.2 (fun hr=>by have h1:=hr.1;have h2:=hr.2.1;have h3:=hr.2.2.1;have h4:=hr.2.2.2.1.2.2;omega)]),
 fun h12=>have h12:¬ 1000000000 < s.seq:=(by simpa using h12)
⟨fun h13=>have h13:s.ng < 0:=(by simpa using h13)
(by rw [jo.2 (fun hr=>by have h1:=hr.1;have h2:=hr.2.1;have h3:=hr.2.2.1;have h4:=hr.2.2.2.1.2.2;omega)]),
 fun h13=>have h13:¬ s.ng < 0:=(by simpa using h13)
⟨fun uy=>have uy:1000000000 < s.ng:=(by simpa using uy)
(by rw [jo.2 (fun hr=>by have h1:=hr.1;have h2:=hr.2.1;have h3:=hr.2.2.1;have h4:=hr.2.2.2.1.2.2;omega)]),
 fun uy=>have uy:¬ 1000000000 < s.ng:=(by simpa using uy)
⟨(fun w _ _=>zh),⟨Nat.zero_le _,fun j hj=>absurd hj (Nat.not_lt_zero j)⟩,⟨rfl,rfl,(jm (List.nil_sublist _))⟩,rfl,fun ny I16 τ17=>⟨fun h18=>have h18:(ny:Int) < (s.os.length:Int):=(by simpa using h18)
⟨(yw Tryz.underlying22 qbd Dv (Nat.le_refl _) h.o rfl (by omega)),(qa0 Dv (Nat.le_refl _) h.o (ou (by omega))),fun g2=>⟨q3w (Bh h.o _ (l7 (by omega))),fun h19=>⟨fun h20=>have h20:(s.os.getD ny order.oz).h=3:=(by simpa using h20)
(by rw [qg3 (k:=ny) (by omega) (fun ho=>by have h1:=ho.2;have h2:=h1.2.2.2.2;omega)]),
 fun h20=>have h20:¬ (s.os.getD ny order.oz).h=3:=(by simpa using h20)
⟨fun h21=>have h21:¬ (s.os.getD ny order.oz).a < s.a:=(by simpa using h21)
(by rw [qg3 (k:=ny) (by omega) (fun ho=>by have h1:=ho.2;have h2:=h1.2.2.2.2;omega)]),
 fun h21=>have h21:(s.os.getD ny order.oz).a < s.a:=(by simpa using h21)
⟨fun h22=>have h22:¬ (s.os.getD ny order.oz).y < s.y:=(by simpa using h22)
(by rw [qg3 (k:=ny) (by omega) (fun ho=>by have h1:=ho.2;have h2:=h1.2.2.2.2;omega)]),
 fun h22=>have h22:(s.os.getD ny order.oz).y < s.y:=(by simpa using h22)
⟨fun h23=>have h23:s.last < (s.os.getD ny order.oz).i:=(by simpa using h23)
(by rw [qg3 (k:=ny) (by omega) (fun ho=>by have h1:=ho.2;have h2:=h1.2.2.2.2;omega)]),
 fun h23=>have h23:¬ s.last < (s.os.getD ny order.oz).i:=(by simpa using h23)
⟨fun Jm=>have Jm:0 < (ny:Int):=(by simpa using Jm)
⟨lg (by omega) (by omega) (by omega),⟨(yw Tryz.underlying22 qbd Dv (Nat.le_refl _) h.o rfl (by omega)),(qa0 Dv (Nat.le_refl _) h.o (ou (by omega))),⟨fun Kt=>have Kt:¬ (s.os.getD (ny - 1:Nat) order.oz).i < (s.os.getD ny order.oz).i:=(by simpa using Kt)
(by rw [qg3 (k:=ny) (by omega) (fun ho=>by have h1:=ho.2;have h2:=h1.2.2.2.2;omega)]),
 fun Kt=>have Kt:(s.os.getD (ny - 1:Nat) order.oz).i < (s.os.getD ny order.oz).i:=(by simpa using Kt)
⟨lg (by omega) (by omega) (by omega),⟨((ny+1):Nat),⟨by omega,Gx I16.2 ⟨h19,by omega,by omega,by omega,by omega,fun _=>by omega⟩⟩,(by omega),⟨rfl,rfl,(jm (List.nil_sublist _))⟩,rfl⟩⟩⟩⟩⟩,
 fun Jm=>have Jm:¬ 0 < (ny:Int):=(by simpa using Jm)
⟨lg (by omega) (by omega) (by omega),⟨((ny+1):Nat),⟨by omega,Gx I16.2 ⟨h19,by omega,by omega,by omega,by omega,fun _=>by omega⟩⟩,(by omega),⟨rfl,rfl,(jm (List.nil_sublist _))⟩,rfl⟩⟩⟩⟩⟩⟩⟩,
 fun h19=>(by rw [qg3 (k:=ny) (by omega) (fun ho=>by rw [ho.1] at h19;cases h19)])⟩⟩,
 fun h18=>have h18:¬ (ny:Int) < (s.os.length:Int):=(by simpa using h18)
⟨(fun w _ _=>zh),⟨Nat.zero_le _,fun j hj=>absurd hj (Nat.not_lt_zero j)⟩,⟨rfl,rfl,(jm (List.nil_sublist _))⟩,rfl,fun J7 I27 τ28=>⟨fun h29=>have h29:(J7:Int) < (s.ls.length:Int):=(by simpa using h29)
⟨(yw Tryz.underlying24 Es Gq (Nat.le_refl _) h.l rfl (by omega)),(qa0 Gq (Nat.le_refl _) h.l (ou (by omega))),⟨q3x,fun h30=>⟨lg (by omega) (by omega) (by omega),⟨((J7+1):Nat),⟨by omega,Gx I27.2 h30⟩,(by omega),⟨rfl,rfl,(jm (List.nil_sublist _))⟩,rfl⟩⟩,
 fun h30=>(by rw [q5h (k:=J7) (by omega) h30])⟩⟩,
 fun h29=>have h29:¬ (J7:Int) < (s.ls.length:Int):=(by simpa using h29)
⟨(fun w _ _=>zh),⟨Nat.zero_le _,fun j hj=>absurd hj (Nat.not_lt_zero j)⟩,⟨rfl,rfl,(jm (List.nil_sublist _))⟩,rfl,fun y31 I32 τ33=>⟨fun Rx=>have Rx:(y31:Int) < (s.ps.length:Int):=(by simpa using Rx)
⟨(yw Tryz.underlying25 qb0 Gw (Nat.le_refl _) h.k rfl (by omega)),(qa0 Gw (Nat.le_refl _) h.k (ou (by omega))),⟨fun h35=>have h35:(s.ps.getD y31 0) < 0:=(by simpa using h35)
(by rw [q5i (k:=y31) (by omega) (by omega)]),
 fun h35=>have h35:¬ (s.ps.getD y31 0) < 0:=(by simpa using h35)
⟨lg (by omega) (by omega) (by omega),⟨((y31+1):Nat),⟨by omega,Gx I32.2 (by omega)⟩,(by omega),⟨rfl,rfl,(jm (List.nil_sublist _))⟩,rfl⟩⟩⟩⟩,
 fun Rx=>have Rx:¬ (y31:Int) < (s.ps.length:Int):=(by simpa using Rx)
⟨fun O1=>⟨qwt (fun w hw _=>(h.below hw).all (fun b hb=>Nat.lt_of_lt_of_le hb hw.size)) (qsu (by omega) (by omega) (fun j hj=>I16.2 j (by omega))) O1,fun Ci=>⟨(fun w _ _=>zh),⟨Nat.zero_le _,fun j hj=>absurd hj (Nat.not_lt_zero j)⟩,⟨rfl,rfl,(jm (.cons_cons _ (List.nil_sublist _)))⟩,rfl,fun y38 I39 τ40=>⟨fun Tc=>have Tc:(y38:Int) < (s.cs.length:Int):=(by simpa using Tc)
⟨(Gn Tryz.underlying23 yg (ji (j:=0) rfl) (by omega)),(Hw zn (by decide) qa2 (ji (j:=0) rfl) (ou (by rw [P7];omega))),⟨(yw Tryz.underlying23 yg qa2 (Nat.le_refl _) h.c rfl (by omega)),(qa0 qa2 (Nat.le_refl _) h.c (ou (by omega))),⟨Ri (by kernel_rfl) (cell.Ed ((CL s).getD y38 cz) (s.cs.getD y38 cz) ((Uo.1 O1).2.1 _ (l7 (by rw [P7];omega))).1 (Jg h.c _ (l7 (by omega)))) _ _,fun h42=>(by rw [q2b (k:=y38) (by omega) (by simpa using h42)]),
 fun h42=>⟨lg (by omega) (by omega) (by omega),⟨((y38+1):Nat),⟨by omega,Gx I39.2 (by simpa using h42)⟩,(by omega),⟨rfl,rfl,(jm (.cons_cons _ (List.nil_sublist _)))⟩,rfl⟩⟩⟩⟩⟩,
 fun Tc=>have Tc:¬ (y38:Int) < (s.cs.length:Int):=(by simpa using Tc)
(by rw [qxk (by omega) (by omega) (by omega) (by omega) (by omega) (fun j hj=>I16.2 j (by omega)) (fun j hj=>I27.2 j (by omega)) (fun j hj=>I32.2 j (by omega)) O1 (fun j hj=>I39.2 j (by omega))])⟩⟩⟩,
 fun O1=>⟨qpn (fun w hw _=>(h.below hw).all (fun b hb=>Nat.lt_of_lt_of_le hb hw.size)) (qsu (by omega) (by omega) (fun j hj=>I16.2 j (by omega))) O1,(by rw [qzd O1])⟩⟩⟩⟩⟩⟩⟩⟩⟩⟩⟩⟩⟩⟩⟩⟩⟩⟩⟩⟩⟩⟩⟩⟩)
end Go.Proofs.YtbbjlfbemibfcaaGreat.book
