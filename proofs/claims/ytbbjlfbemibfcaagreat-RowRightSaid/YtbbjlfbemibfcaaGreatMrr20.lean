/-
  zy5
-/
import Derived.Test.YtbbjlfbemibfcaaGreatMrr19
import Derived.Laws.BitsAllLaws
set_option linter.unusedVariables false
set_option linter.unusedSimpArgs false
namespace Go.Proofs.YtbbjlfbemibfcaaGreat.row
open Go.RowKit Go.Proofs.YtbbjlfbemibfcaaGreat
set_option maxRecDepth 20000
open Go.Proofs.YtbbjlfbemibfcaaGreat.frame (be zi Me u le4)
open Go.Proofs.YtbbjlfbemibfcaaGreat.book (St)
section
variable {P:Program} {w0:World} {D:List Fact} {T:TypeId} {a b:Nat} {c:Int}
theorem q4f (m:Nat) (hm:m≤32) (hc:c=(m:Int)) (ox oy:Operand):jd P w0 D (do eqGuard .shr T ox oy (.int .u32 (a:Int)) (.int .u64 c);Go.binOp .shr T (.int .u32 (a:Int)) (.int .u64 c)) (.int .u32 ((a / 2 ^ m:Nat):Int)):=fun w _ _=>by
 subst hc
 have e:(Op.shift .shr .u32 (a:Int) .u64 (m:Int))=pure (.int .u32 ((a / 2 ^ m:Nat):Int)):=by
  have:=shift_shr_u32 (x:=(a:Int)) (yk:=.u64) (y:=(m:Int)) (by omega) (by omega)
  rw [Int.toNat_natCast] at this;rw [this,Int.natCast_ediv,Int.natCast_pow];rfl
 show (do eqGuard .shr T ox oy _ _;Op.shift .shr .u32 (a:Int) .u64 (m:Int)).run P w=_
 rw [e];rfl
theorem q4g (m:Nat) (hm:m≤32) (hc:c=(m:Int)) (ox oy:Operand):jd P w0 D (do eqGuard .shl T ox oy (.int .u32 (a:Int)) (.int .u64 c);Go.binOp .shl T (.int .u32 (a:Int)) (.int .u64 c)) (.int .u32 ((a * 2 ^ m % 4294967296:Nat):Int)):=fun w _ _=>by
 subst hc
 have e:(Op.shift .shl .u32 (a:Int) .u64 (m:Int))=pure (.int .u32 ((a * 2 ^ m % 4294967296:Nat):Int)):=by
  have:=shift_shl_u32 (x:=(a:Int)) (yk:=.u64) (y:=(m:Int)) (by omega) (by omega)
  rw [Int.toNat_natCast,IntKind.wrap_u32] at this;rw [this,Int.natCast_emod,Int.natCast_mul,Int.natCast_pow];rfl
 show (do eqGuard .shl T ox oy _ _;Op.shift .shl .u32 (a:Int) .u64 (m:Int)).run P w=_
 rw [e];rfl
theorem q4h (ha:a < 4294967296) (hb:b < 4294967296) (hc:c=(b:Int)) (ox oy:Operand):jd P w0 D (do eqGuard .and T ox oy (.int .u32 (a:Int)) (.int .u32 c);Go.binOp .and T (.int .u32 (a:Int)) (.int .u32 c)) (.int .u32 ((a &&& b:Nat):Int)):=fun w _ _=>by
 subst hc
 show (do eqGuard .and T ox oy _ _;pure (Value.int .u32 (bits .and .u32 (a:Int) (b:Int)))).run P w=_
 rw [u32_and_nat a b ha hb];rfl
theorem zdf (ha:a < 4294967296) (hb:b < 4294967296) (ox oy:Operand):jd P w0 D (do eqGuard .or T ox oy (.int .u32 (a:Int)) (.int .u32 (b:Int));Go.binOp .or T (.int .u32 (a:Int)) (.int .u32 (b:Int))) (.int .u32 ((a ||| b:Nat):Int)):=fun w _ _=>by
 show (do eqGuard .or T ox oy _ _;pure (Value.int .u32 (bits .or .u32 (a:Int) (b:Int)))).run P w=_
 rw [u32_or_nat a b ha hb];rfl
end
def P5 (n:Nat):Nat:=(n / 2 ^ 8 &&& 16711935) ||| ((n &&& 16711935) * 2 ^ 8 % 4294967296)
def Bj (n:Nat):Nat:=(P5 n / 2 ^ 16) ||| (P5 n * 2 ^ 16 % 4294967296)
theorem and_split {k x y p q:Nat} (hy:y < 2 ^ k) (hq:q < 2 ^ k):(2 ^ k * x+y) &&& (2 ^ k * p+q)=2 ^ k * (x &&& p)+(y &&& q):=by
 refine Nat.eq_of_testBit_eq fun j=>?_
 rw [Nat.testBit_and,Nat.testBit_two_pow_mul_add _ hy,Nat.testBit_two_pow_mul_add _ hq,Nat.testBit_two_pow_mul_add _ (Nat.lt_of_le_of_lt Nat.and_le_left hy)]
 split<;>rw [Nat.testBit_and]
theorem qla {k x y p q:Nat} (hy:y < 2 ^ k) (hq:q < 2 ^ k):(2 ^ k * x+y) ||| (2 ^ k * p+q)=2 ^ k * (x ||| p)+(y ||| q):=by
 refine Nat.eq_of_testBit_eq fun j=>?_
 rw [Nat.testBit_or,Nat.testBit_two_pow_mul_add _ hy,Nat.testBit_two_pow_mul_add _ hq,Nat.testBit_two_pow_mul_add _ (Nat.or_lt_two_pow hy hq)]
 split<;>rw [Nat.testBit_or]
theorem qva (a b c d:Nat) (ha:a < 256) (hb:b < 256) (hc:c < 256) (hd:d < 256):(a+256 * b+65536 * c+16777216 * d) &&& 16711935=a+65536 * c:=by
 have h1:=and_split (k:=8) (x:=0) (y:=d) (p:=0) (q:=0) hd (by decide)
 have h2:=and_split (k:=8) (x:=d) (y:=c) (p:=0) (q:=255) hc (by decide)
 have h3:=and_split (k:=8) (x:=2 ^ 8 * d+c) (y:=b) (p:=255) (q:=0) hb (by decide)
 have h4:=and_split (k:=8) (x:=2 ^ 8 * (2 ^ 8 * d+c)+b) (y:=a) (p:=2 ^ 8 * 255+0) (q:=255) ha (by decide)
 have e1:a &&& 255=a:=by have:=Nat.and_two_pow_sub_one_eq_mod a 8;simp at this;omega
 have e2:c &&& 255=c:=by have:=Nat.and_two_pow_sub_one_eq_mod c 8;simp at this;omega
 rw [show a+256 * b+65536 * c+16777216 * d=2 ^ 8 * (2 ^ 8 * (2 ^ 8 * d+c)+b)+a by omega,show (16711935:Nat)=2 ^ 8 * (2 ^ 8 * 255+0)+255 by omega,h4,h3]
 have h2' : 2 ^ 8 * d+c &&& 255=c:=by
  have:=h2
  rw [show 2 ^ 8 * 0+255=255 by omega,Nat.and_zero,e2] at this;omega
 rw [h2',Nat.and_zero,e1];omega
theorem qy4 {k x y:Nat} (hy:y < 2 ^ k):y ||| (2 ^ k * x)=2 ^ k * x+y:=by
 have:=qla (k:=k) (x:=0) (y:=y) (p:=x) (q:=0) hy (Nat.two_pow_pos k)
 simp only [Nat.mul_zero,Nat.zero_add,Nat.add_zero,Nat.zero_or,Nat.or_zero] at this
 exact this
theorem qy5 (a b c d:Nat) (ha:a < 256) (hb:b < 256) (hc:c < 256) (hd:d < 256):P5 (a+256 * b+65536 * c+16777216 * d)=b+256 * a+65536 * d+16777216 * c:=by
 unfold P5
 have e1:(a+256 * b+65536 * c+16777216 * d) / 2 ^ 8=b+256 * c+65536 * d+16777216 * 0:=by omega
 rw [e1,qva b c d 0 hb hc hd (by omega),qva a b c d ha hb hc hd]
 have e2:(a+65536 * c) * 2 ^ 8 % 4294967296=2 ^ 8 * (2 ^ 8 * (2 ^ 8 * c+0)+a)+0:=by omega
 have e3:b+65536 * d=2 ^ 8 * (2 ^ 8 * (2 ^ 8 * 0+d)+0)+b:=by omega
 rw [e2,e3,qla hb (by decide),qla (by decide) ha,qla hd (by decide),Nat.zero_or,Nat.or_zero,Nat.zero_or,Nat.or_zero]
 omega
theorem qy6 {n:Nat} (h:n < 4294967296):∃ a b c d,a < 256∧b < 256∧c < 256∧d < 256∧n=a+256 * b+65536 * c+16777216 * d :=
 ⟨n % 256,n / 256 % 256,n / 65536 % 256,n / 16777216,by omega,by omega,by omega,by omega,by omega⟩
theorem q7y {n:Nat} (h:n < 4294967296):P5 n < 4294967296:=by
 obtain ⟨a,b,c,d,ha,hb,hc,hd,rfl⟩:=qy6 h
 rw [qy5 a b c d ha hb hc hd];omega
theorem q5g (a b c d:Nat) (ha:a < 256) (hb:b < 256) (hc:c < 256) (hd:d < 256):Bj (a+256 * b+65536 * c+16777216 * d)=d+256 * c+65536 * b+16777216 * a:=by
 unfold Bj
 rw [qy5 a b c d ha hb hc hd]
 have e1:(b+256 * a+65536 * d+16777216 * c) / 2 ^ 16=d+256 * c:=by omega
 have e2:(b+256 * a+65536 * d+16777216 * c) * 2 ^ 16 % 4294967296=2 ^ 16 * (b+256 * a):=by omega
 rw [e1,e2,qy4 (by omega)]
 omega
theorem zdg {a b c d:Nat} (ha:a < 256) (hb:b < 256) (hc:c < 256) (hd:d < 256):(a+256 * b+65536 * c+16777216 * d) % 256=a∧(a+256 * b+65536 * c+16777216 * d) / 256 % 256=b∧(a+256 * b+65536 * c+16777216 * d) / 65536 % 256=c∧(a+256 * b+65536 * c+16777216 * d) / 16777216 % 256=d :=
 ⟨by omega,by omega,by omega,by omega⟩
theorem qvb {n:Nat} (h:n < 4294967296):be 4 (Bj n)=le4 n∧Bj n < 4294967296:=by
 obtain ⟨a,b,c,d,ha,hb,hc,hd,rfl⟩:=qy6 h
 rw [q5g a b c d ha hb hc hd]
 refine ⟨?_,by omega⟩
 unfold le4
 obtain ⟨x1,x2,x3,x4⟩:=zdg ha hb hc hd
 obtain ⟨y4,y3,y2,y1⟩:=zdg hd hc hb ha
 rw [x1,x2,x3,x4]
 simp only [be,Nat.reducePow,Nat.div_one]
 rw [y1,y2,y3,y4]
theorem q9q (n:Nat)  (w:World) (hn:n < 4294967296):Calls Tryz.prog 54 #[.int .u32 (n:Int)] w fun e w'=>e = .returned (.int .u32 ((Bj n:Nat):Int))∧Below w.heap.size w w' :=
 uw (fn:=Tryz.f54) (r:=.int .u32 ((Bj n:Nat):Int)) (t:=.x (.int .u32 ((n / 2 ^ 8:Nat):Int)) (.x (.int .u32 (((n / 2 ^ 8:Nat) &&& 16711935:Nat):Int)) (.x (.int .u32 ((n &&& 16711935:Nat):Int)) (.x (.int .u32 (((n &&& 16711935:Nat) * 2 ^ 8 % 4294967296:Nat):Int)) (.x (.int .u32 ((P5 n:Nat):Int)) (.x (.int .u32 (((P5 n:Nat) / 2 ^ 16:Nat):Int)) (.x (.int .u32 (((P5 n:Nat) * 2 ^ 16 % 4294967296:Nat):Int)) (.x (.int .u32 ((Bj n:Nat):Int)) .z)))))))) (X :=
 let k0:Value:=.int .u32 (((n &&& 16711935:Nat) * 2 ^ 8 % 4294967296:Nat):Int);let k1:Value:=.int .u32 ((P5 n:Nat):Int);let k2:Value:=.int .u32 (((P5 n:Nat) * 2 ^ 16 % 4294967296:Nat):Int);let k3:Value:=.int .u32 (((n / 2 ^ 8:Nat) &&& 16711935:Nat):Int);let k4:Value:=.int .u32 (((P5 n:Nat) / 2 ^ 16:Nat):Int);let k5:Value:=.int .u32 16711935;let k6:Value:=.int .u32 ((n &&& 16711935:Nat):Int);let k7:Value:=.int .u32 ((n / 2 ^ 8:Nat):Int);let k8:Value:=.int .u64 16;let k9:Value:=.int .u32 (n:Int);let k10:=((Bj n:Nat):Int);jd Tryz.prog w [] (do eqGuard BinOp.shr 64 (.tmp 3) (.const (.int .u64 8)) k9 (.int .u64 8);Go.binOp BinOp.shr 64 k9 (.int .u64 8)) k7∧jd Tryz.prog w [] (do eqGuard BinOp.and 64 (.tmp 4) (.const k5) k7 k5;Go.binOp BinOp.and 64 k7 k5) k3∧jd Tryz.prog w [] (do eqGuard BinOp.and 64 (.tmp 6) (.const k5) k9 k5;Go.binOp BinOp.and 64 k9 k5) k6∧jd Tryz.prog w [] (do eqGuard BinOp.shl 64 (.tmp 7) (.const (.int .u64 8)) k6 (.int .u64 8);Go.binOp BinOp.shl 64 k6 (.int .u64 8)) k0∧jd Tryz.prog w [] (do eqGuard BinOp.or 64 (.tmp 5) (.tmp 8) k3 k0;Go.binOp BinOp.or 64 k3 k0) k1∧jd Tryz.prog w [] (do eqGuard BinOp.shr 64 (.tmp 10) (.const k8) k1 k8;Go.binOp BinOp.shr 64 k1 k8) k4∧jd Tryz.prog w [] (do eqGuard BinOp.shl 64 (.tmp 12) (.const k8) k1 k8;Go.binOp BinOp.shl 64 k1 k8) k2∧jd Tryz.prog w [] (do eqGuard BinOp.or 64 (.tmp 11) (.tmp 13) k4 k2;Go.binOp BinOp.or 64 k4 k2) (.int .u32 k10)∧((.int .u32 k10:Value) = .int .u32 k10)) Tryz.func54 (by kernel_rfl)
 (⟨(q4f 8 (by decide) rfl _ _),⟨(q4h (b:=16711935) (by omega) (by decide) rfl _ _),⟨(q4h (b:=16711935) (by omega) (by decide) rfl _ _),⟨(q4g 8 (by decide) rfl _ _),⟨(zdf (a:=n / 2 ^ 8 &&& 16711935) (b:=(n &&& 16711935) * 2 ^ 8 % 4294967296) (Nat.lt_of_le_of_lt Nat.and_le_left (by omega)) (by omega) _ _),⟨(q4f 16 (by decide) rfl _ _),⟨(q4g 16 (by decide) rfl _ _),⟨(zdf (a:=P5 n / 2 ^ 16) (b:=P5 n * 2 ^ 16 % 4294967296) (by have:=q7y hn;omega) (by omega) _ _),rfl⟩⟩⟩⟩⟩⟩⟩⟩)
end Go.Proofs.YtbbjlfbemibfcaaGreat.row
