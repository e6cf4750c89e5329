/-
  zmp, zmq, zmr
-/
import Derived.Test.YtbbjlfbemibfcaaGreatRows
import Derived.Test.YtbbjlfbemibfcaaGreatMrr14
import Derived.WalkKit
import Derived.WalkSpells
import Derived.WalkLawsBesides
import Derived.Laws.Bits64
set_option linter.unusedVariables false
set_option linter.unusedSimpArgs false
section
namespace Go.Proofs.YtbbjlfbemibfcaaGreat.num
set_option maxRecDepth 20000
open Go.RowKit
theorem qwn (a b:Int) (w:World) (ha:jq a) (hb:jq b) (h:jq (a+b)) :
  Calls Tryz.prog 58 #[.int .i64 a,.int .i64 b] w fun e w'=>e = .returned (.tuple #[.int .i64 (a+b),.bool true])∧w=w':=by
 unfold jq at ha hb h
 rcases (show (0 < b∧¬ 9223372036854775807 - b < a)∨(b < 0∧¬ a < -9223372036854775808 - b)∨(¬ 0 < b∧¬ b < 0) by omega) with ⟨h1,h2⟩ | ⟨h1,h2⟩ | ⟨h1,h2⟩
 all_goals
  go_enter Tryz.func58,Tryz.ntmps58
  go_wp2
  go_ret2
  exact ⟨rfl,rfl⟩
theorem qri (a b:Int) (w:World) (ha:jq a) (hb:jq b) (h:¬ jq (a+b)) :
  Calls Tryz.prog 58 #[.int .i64 a,.int .i64 b] w fun e w'=>e = .returned (.tuple #[.int .i64 0,.bool false])∧w=w':=by
 unfold jq at ha hb h
 rcases (show (0 < b∧9223372036854775807 - b < a)∨(b < 0∧a < -9223372036854775808 - b) by omega) with ⟨h1,h2⟩ | ⟨h1,h2⟩
 all_goals
  go_enter Tryz.func58,Tryz.ntmps58
  go_wp2
  go_ret2
  exact ⟨rfl,rfl⟩
end Go.Proofs.YtbbjlfbemibfcaaGreat.num
end
section
namespace Go.Proofs.YtbbjlfbemibfcaaGreat.num
set_option maxRecDepth 20000
open Go.RowKit
theorem q68 (a b:Int) (w:World) (ha:jq a) (hb:jq b) (h:jq (a - b)) :
  Calls Tryz.prog 87 #[.int .i64 a,.int .i64 b] w fun e w'=>e = .returned (.tuple #[.int .i64 (a - b),.bool true])∧w=w':=by
 unfold jq at ha hb h
 rcases (show (0 < b∧¬ a < -9223372036854775808+b)∨(b < 0∧¬ 9223372036854775807+b < a)∨(¬ 0 < b∧¬ b < 0) by omega) with ⟨h1,h2⟩ | ⟨h1,h2⟩ | ⟨h1,h2⟩
 all_goals
  go_enter Tryz.func87,Tryz.ntmps87
  go_wp2
  go_ret2
  exact ⟨rfl,rfl⟩
theorem q02 (a b:Int) (w:World) (ha:jq a) (hb:jq b) (h:¬ jq (a - b)) :
  Calls Tryz.prog 87 #[.int .i64 a,.int .i64 b] w fun e w'=>e = .returned (.tuple #[.int .i64 0,.bool false])∧w=w':=by
 unfold jq at ha hb h
 rcases (show (0 < b∧a < -9223372036854775808+b)∨(b < 0∧9223372036854775807+b < a) by omega) with ⟨h1,h2⟩ | ⟨h1,h2⟩
 all_goals
  go_enter Tryz.func87,Tryz.ntmps87
  go_wp2
  go_ret2
  exact ⟨rfl,rfl⟩
end Go.Proofs.YtbbjlfbemibfcaaGreat.num
end
section
namespace Go.Proofs.YtbbjlfbemibfcaaGreat.num
set_option maxRecDepth 20000
open Go.RowKit
theorem zms {k:IntKind} {a b:Int} (h:a=b):Ending.returned (.int k a) = .returned (.int k b):=by rw [h]
theorem q03 (a:Int) (w:World) (ha:jq a) (h:a < 0) :
  Calls Tryz.prog 113 #[.int .i64 a] w fun e w'=>e = .returned (.int .u64 (-a))∧w=w':=by
 unfold jq at ha
 go_enter Tryz.func113,Tryz.ntmps113
 go_wp2
 go_ret
 exact ⟨zms (by omega),rfl⟩
theorem q04 (a:Int) (w:World) (ha:jq a) (h:0≤a) :
  Calls Tryz.prog 113 #[.int .i64 a] w fun e w'=>e = .returned (.int .u64 a)∧w=w':=by
 unfold jq at ha
 go_enter Tryz.func113,Tryz.ntmps113
 go_wp2
 go_ret
 exact ⟨rfl,rfl⟩
theorem qx (a x:Int) (w:World) (ha:jq a) (h:(a < 0 ∧ -a=x)∨(0≤a∧a=x)) :
  Calls Tryz.prog 113 #[.int .i64 a] w fun e w'=>e = .returned (.int .u64 x)∧w=w':=by
 rcases h with ⟨h,rfl⟩ | ⟨h,rfl⟩
 ·exact q03 a w ha h
 ·exact q04 a w ha h
theorem qt8 (x:Int) (h0:0≤x) (h1:x≤9223372036854775808):bits BinOp.and IntKind.u64 x 4294967295=x % 4294967296:=by
 obtain ⟨n,rfl⟩:=Int.eq_ofNat_of_zero_le h0
 have h:=bits_and_u64_nat n 4294967295 (by omega) (by omega)
 rw [show (4294967295:Nat)=2 ^ 32 - 1 by rfl,Nat.and_two_pow_sub_one_eq_mod] at h
 have h2:bits BinOp.and IntKind.u64 (n:Int) 4294967295=((n % 2 ^ 32:Nat):Int):=h
 rw [h2];omega
theorem halves (x y:Int) (h0:0≤x) (h1:0≤y) (h2:x≤9223372036854775808) (h3:y≤9223372036854775808) :
  ∃ xh xl yh yl P Q R:Int,x / 4294967296=xh∧bits BinOp.and IntKind.u64 x 4294967295=xl∧y / 4294967296=yh∧bits BinOp.and IntKind.u64 y 4294967295=yl ∧
   xh * yl=P∧xl * yh=Q∧xl * yl=R∧0≤xh∧0≤yh∧0≤P∧P≤9223372034707292160∧0≤Q∧Q≤9223372034707292160∧0≤R∧R≤18446744065119617025 ∧
   ((0 < xh∧0 < yh∧18446744073709551616≤x * y)∨((xh≤0∨0 < xh∧yh≤0)∧(P+Q) * 4294967296+R=x * y)):=by
 have ex:=Int.mul_ediv_add_emod x 4294967296
 have ey:=Int.mul_ediv_add_emod y 4294967296
 refine ⟨_,_,_,_,_,_,_,rfl,qt8 x h0 h2,rfl,qt8 y h1 h3,rfl,rfl,rfl,by omega,by omega,?_⟩
 have a1:0≤x / 4294967296∧x / 4294967296≤2147483648:=by omega
 have a2:0≤y / 4294967296∧y / 4294967296≤2147483648:=by omega
 have a3:0≤x % 4294967296∧x % 4294967296≤4294967295:=by omega
 have a4:0≤y % 4294967296∧y % 4294967296≤4294967295:=by omega
 generalize x / 4294967296=xh at *
 generalize y / 4294967296=yh at *
 generalize x % 4294967296=xl at *
 generalize y % 4294967296=yl at *
 have b1:=Int.mul_le_mul a1.2 a4.2 a4.1 (by omega)
 have b2:=Int.mul_le_mul a3.2 a2.2 a2.1 (by omega)
 have b3:=Int.mul_le_mul a3.2 a4.2 a4.1 (by omega)
 have c1:=Int.mul_nonneg a1.1 a4.1
 have c2:=Int.mul_nonneg a3.1 a2.1
 have c3:=Int.mul_nonneg a3.1 a4.1
 have e:x * y=(xh * yh) * 18446744073709551616+(xh * yl+xl * yh) * 4294967296+xl * yl:=by
  rw [← ex,← ey]
  simp only [Int.add_mul,Int.mul_add]
  have t1:4294967296 * xh * (4294967296 * yh)=xh * yh * 18446744073709551616:=by
   rw [Int.mul_assoc,Int.mul_left_comm xh,← Int.mul_assoc];omega
  have t2:4294967296 * xh * yl=xh * yl * 4294967296:=by rw [Int.mul_assoc];omega
  have t3:xl * (4294967296 * yh)=xl * yh * 4294967296:=by rw [Int.mul_left_comm];omega
  omega
 refine ⟨c1,by omega,c2,by omega,c3,by omega,?_⟩
 by_cases k1:0 < xh
 ·by_cases k2:0 < yh
  ·left
   have:=Int.mul_pos k1 k2
   exact ⟨k1,k2,by omega⟩
  ·right
   have:yh=0:=by omega
   subst this
   exact ⟨.inr ⟨k1,by omega⟩,by rw [e];simp⟩
 ·right
  have:xh=0:=by omega
  subst this
  exact ⟨.inl (by omega),by rw [e];simp⟩
theorem qna {k:IntKind} {a b:Int} {c d:Bool} (h:a=b) (g:c=d):Ending.returned (.tuple #[.int k a,.bool c]) = .returned (.tuple #[.int k b,.bool d]):=by rw [h,g]
def q69 (a b:Int) (w:World) (e:Ending) (w' : World):Prop :=
 (∃ v:Int,e = .returned (.tuple #[.int .i64 v,.bool (decide (jq (a * b)))])∧jq v∧(jq (a * b)→v=a * b))∧w=w'
theorem q3o {a b S T:Int} (w:World) (h:S=T) (g:a * b=T) (h0:0≤T) (h1:T≤9223372036854775808) :
  ∃ v:Int,Ending.returned (.tuple #[.int .i64 (wrap64 S),.bool (decide (S < 9223372036854775808))]) = .returned (.tuple #[.int .i64 v,.bool (decide (jq (a * b)))])∧jq v∧(jq (a * b)→v=a * b):=by
 subst h
 rw [g]
 refine ⟨_,qna rfl ?_,qpt _,fun h=>?_⟩
 ·rw [decide_eq_decide];unfold jq;omega
 ·unfold jq at h;unfold wrap64;omega
theorem q3p {a b S T:Int} (w:World) (h:S=T) (g:a * b = -T) (h0:0≤T) (h1:T≤9223372036854775808) :
  ∃ v:Int,Ending.returned (.tuple #[.int .i64 (wrap64 (IntKind.u64.wrap (-S))),.bool true]) = .returned (.tuple #[.int .i64 v,.bool (decide (jq (a * b)))])∧jq v∧(jq (a * b)→v=a * b):=by
 subst h
 rw [g]
 refine ⟨_,qna rfl ?_,qpt _,fun h=>?_⟩
 ·symm;apply decide_eq_true;unfold jq;omega
 ·simp only [IntKind.wrap,IntKind.signed,IntKind.bits];unfold wrap64;simp;omega
theorem qnb {a:Int} (h:¬ jq a):decide (jq a)=false:=decide_eq_false h
set_option maxHeartbeats 2000000 in
theorem q3q (a b:Int) (w:World) (ha:jq a) (hb:jq b) :
  Calls Tryz.prog 86 #[.int .i64 a,.int .i64 b] w (q69 a b w):=by
 obtain ⟨x,hx,h0,h2⟩:∃ x,Hid ((a < 0 ∧ -a=x)∨(0≤a∧a=x))∧0≤x∧x≤9223372036854775808:=by
  unfold jq at ha
  by_cases h:a < 0
  ·exact ⟨-a,Lib.hid (.inl ⟨h,rfl⟩),by omega,by omega⟩
  ·exact ⟨a,Lib.hid (.inr ⟨by omega,rfl⟩),by omega,by omega⟩
 obtain ⟨y,hy,h1,h3⟩:∃ x,Hid ((b < 0 ∧ -b=x)∨(0≤b∧b=x))∧0≤x∧x≤9223372036854775808:=by
  unfold jq at hb
  by_cases h:b < 0
  ·exact ⟨-b,Lib.hid (.inl ⟨h,rfl⟩),by omega,by omega⟩
  ·exact ⟨b,Lib.hid (.inr ⟨by omega,rfl⟩),by omega,by omega⟩
 have hab:Hid ((a < 0∧b < 0∧a * b=x * y)∨(a < 0∧0≤b∧a * b = - (x * y))∨(0≤a∧b < 0∧a * b = - (x * y))∨(0≤a∧0≤b∧a * b=x * y)):=Lib.hid (by
  rcases hx.out with ⟨p,q⟩ | ⟨p,q⟩<;>rcases hy.out with ⟨r,s⟩ | ⟨r,s⟩<;>simp [← q,← s,p,r,Int.neg_mul,Int.mul_neg])
 have hS0:0≤x * y:=Int.mul_nonneg h0 h1
 obtain ⟨xh,xl,yh,yl,P,Q,R,e1,e2,e3,e4,e5,e6,e7,b1,b2,b3,b4,b5,b6,b7,b8,hh⟩:=halves x y h0 h1 h2 h3
 have ia:=Lib.hid ha
 have ib:=Lib.hid hb
 clear ha hb
 generalize HSS:x * y=T at *
 have HS:=Lib.hid HSS
 clear HSS
 rcases hh with ⟨k1,k2,k3⟩ | ⟨hk,hT⟩
 ·have hno:Hid (¬ jq (a * b)):=Lib.hid (by unfold jq;rcases hab.out with ⟨_,_,h⟩ | ⟨_,_,h⟩ | ⟨_,_,h⟩ | ⟨_,_,h⟩<;>rw [h]<;>omega)
  go_enter Tryz.func86,Tryz.ntmps86
  go_wp2_with (first
   |((with_reducible refine (qx a x _ ia.out hx.out).mono ?_);rintro e w' ⟨rfl,rfl⟩)
   |((with_reducible refine (qx b y _ ib.out hy.out).mono ?_);rintro e w' ⟨rfl,rfl⟩))
  go_ret2
  exact ⟨⟨0,qna rfl (qnb hno.out).symm,by unfold jq;omega,fun h=>(hno.out h).elim⟩,rfl⟩
 ·have HT:=Lib.hid hT
  have hcase:(4294967296≤P+Q)∨(P+Q < 4294967296∧18446744073709551616≤(P+Q) * 4294967296+R∧IntKind.u64.wrap ((P+Q) * 4294967296+R)=(P+Q) * 4294967296+R - 18446744073709551616) ∨
    (P+Q < 4294967296∧(P+Q) * 4294967296+R < 18446744073709551616∧9223372036854775808 < (P+Q) * 4294967296+R)∨(P+Q < 4294967296∧(P+Q) * 4294967296+R≤9223372036854775808):=by
   by_cases c1:4294967296≤P+Q
   ·exact .inl c1
   ·by_cases c2:18446744073709551616≤(P+Q) * 4294967296+R
    ·refine .inr (.inl ⟨by omega,c2,?_⟩)
     simp [IntKind.wrap,IntKind.signed,IntKind.bits];omega
    ·omega
  clear hT
  rcases hcase with c1 | ⟨c1,c2,c3⟩ | ⟨c1,c2,c3⟩ | ⟨c1,c2⟩
  ·have hno:Hid (¬ jq (a * b)):=Lib.hid (by have:=HT.out;unfold jq;rcases hab.out with ⟨_,_,h⟩ | ⟨_,_,h⟩ | ⟨_,_,h⟩ | ⟨_,_,h⟩<;>rw [h]<;>omega)
   rcases hk with k1 | ⟨k1,k2⟩
   all_goals
    go_enter Tryz.func86,Tryz.ntmps86
    go_wp2_with (first
     |((with_reducible refine (qx a x _ ia.out hx.out).mono ?_);rintro e w' ⟨rfl,rfl⟩)
     |((with_reducible refine (qx b y _ ib.out hy.out).mono ?_);rintro e w' ⟨rfl,rfl⟩))
    go_ret2
    exact ⟨⟨0,qna rfl (qnb hno.out).symm,by unfold jq;omega,fun h=>(hno.out h).elim⟩,rfl⟩
  ·have hno:Hid (¬ jq (a * b)):=Lib.hid (by have:=HT.out;unfold jq;rcases hab.out with ⟨_,_,h⟩ | ⟨_,_,h⟩ | ⟨_,_,h⟩ | ⟨_,_,h⟩<;>rw [h]<;>omega)
   have c3' : (P+Q) * 4294967296+R - 18446744073709551616 < R:=by omega
   rcases hk with k1 | ⟨k1,k2⟩
   all_goals
    go_enter Tryz.func86,Tryz.ntmps86
    go_wp2_with (first
     |((with_reducible refine (qx a x _ ia.out hx.out).mono ?_);rintro e w' ⟨rfl,rfl⟩)
     |((with_reducible refine (qx b y _ ib.out hy.out).mono ?_);rintro e w' ⟨rfl,rfl⟩))
    go_ret2
    exact ⟨⟨0,qna rfl (qnb hno.out).symm,by unfold jq;omega,fun h=>(hno.out h).elim⟩,rfl⟩
  ·have hno:Hid (¬ jq (a * b)):=Lib.hid (by have:=HT.out;unfold jq;rcases hab.out with ⟨_,_,h⟩ | ⟨_,_,h⟩ | ⟨_,_,h⟩ | ⟨_,_,h⟩<;>rw [h]<;>omega)
   have c4:¬ (P+Q) * 4294967296+R < R:=by omega
   rcases hk with k1 | ⟨k1,k2⟩
   all_goals
    go_enter Tryz.func86,Tryz.ntmps86
    go_wp2_with (first
     |((with_reducible refine (qx a x _ ia.out hx.out).mono ?_);rintro e w' ⟨rfl,rfl⟩)
     |((with_reducible refine (qx b y _ ib.out hy.out).mono ?_);rintro e w' ⟨rfl,rfl⟩))
    go_ret2
    exact ⟨⟨0,qna rfl (qnb hno.out).symm,by unfold jq;omega,fun h=>(hno.out h).elim⟩,rfl⟩
  ·have c3:¬ (P+Q) * 4294967296+R < R:=by omega
   have c4:¬ 9223372036854775808 < (P+Q) * 4294967296+R:=by omega
   rcases hk with k1 | ⟨k1,k2⟩
   all_goals
    rcases hab.out with ⟨s1,s2,h⟩ | ⟨s1,s2,h⟩ | ⟨s1,s2,h⟩ | ⟨s1,s2,h⟩
    all_goals
     have HP:=Lib.hid h
     clear h
     obtain ⟨d1,h1'⟩:∃ d:Bool,decide (a < 0)=d:=⟨_,rfl⟩
     obtain ⟨d2,h2'⟩:∃ d:Bool,decide (b < 0)=d:=⟨_,rfl⟩
     have g1:d1=decide (a < 0):=h1'.symm
     have g2:d2=decide (b < 0):=h2'.symm
     first | rw [decide_eq_true s1] at g1 | rw [decide_eq_false (by omega)] at g1
     first | rw [decide_eq_true s2] at g2 | rw [decide_eq_false (by omega)] at g2
     subst g1 g2
     go_enter Tryz.func86,Tryz.ntmps86
     go_wp2_with (first
      |((with_reducible refine (qx a x _ ia.out hx.out).mono ?_);rintro e w' ⟨rfl,rfl⟩)
      |((with_reducible refine (qx b y _ ib.out hy.out).mono ?_);rintro e w' ⟨rfl,rfl⟩))
     go_ret2
     first
     |exact ⟨q3o w HT.out HP.out hS0 (by have:=HT.out;omega),rfl⟩
     |exact ⟨q3p w HT.out HP.out hS0 (by have:=HT.out;omega),rfl⟩
end Go.Proofs.YtbbjlfbemibfcaaGreat.num
end
