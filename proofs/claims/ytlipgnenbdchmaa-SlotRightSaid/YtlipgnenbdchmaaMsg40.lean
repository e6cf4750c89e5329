/-
  CrcWords, CrcImpl, CrcRef
-/
import Derived.Test.YtlipgnenbdchmaaRows
import Derived.Test.YtlipgnenbdchmaaMsg03
import Derived.Test.YtlipgnenbdchmaaMsg12
set_option linter.unusedVariables false
set_option linter.unusedSimpArgs false
section
namespace Go.Proofs.Ytlipgnenbdchmaa.crc
set_option maxRecDepth 20000
open Go.RowKit
theorem drop_at {bs:List Nat} {k:Nat} {x:Nat} (h:bs[k]?=some x):bs.drop k=x :: bs.drop (k+1):=by
 obtain ⟨hk,rfl⟩:=List.getElem?_eq_some_iff.1 h
 rw [List.drop_eq_getElem_cons hk]
theorem bytes_step {bs:List Nat} {k x n:Nat} (h:bs[k]?=some x):bytes n (bs.drop k)=bytes (byte n x) (bs.drop (k+1)):=by rw [drop_at h];rfl
theorem ret32 {a b:Nat} (h:a=b):Ending.returned (.int .u32 (a:Int)) = .returned (.int .u32 (b:Int)):=by rw [h]
end Go.Proofs.Ytlipgnenbdchmaa.crc
end
section
namespace Go.Proofs.Ytlipgnenbdchmaa.crc
set_option maxRecDepth 20000
open Go.RowKit
theorem not32 (s:Nat) (hs:s < 4294967296):∃ m:Nat,bits .xor .u32 IntKind.u32.max (s:Int)=(m:Int)∧Hid (m=s ^^^ 4294967295)∧m < 4294967296:=by
 obtain ⟨m,e,h,l⟩:=xor32 4294967295 s (by omega) hs
 exact ⟨m,e,Lib.hid (by rw [h.out,Nat.xor_comm]),l⟩
theorem and1 (m:Nat) (hm:m < 4294967296):bits .and .u32 (m:Int) 1=((m % 2:Nat):Int):=by
 have h:=u32_and_nat m 1 hm (by omega)
 rw [nat_mask1] at h
 exact h
theorem come_any (s c:Nat) (w:World) (hs:s < 4294967296) (hc:c < 256) :
  Calls Try.prog 67 #[.int .u32 (s:Int),.int .u8 (c:Int)] w fun e w'=>e = .returned (.int .u32 ((byte s c:Nat):Int))∧w=w':=by
 obtain ⟨r1,e1,h1,l1⟩:=xor32 s c hs (by omega)
 go_enter Try.func67,Try.ntmps67
 go_wp2
 go_loop [0,10] (fun t j => ∃ q m:Nat,q≤8∧j = .int .i64 q∧t = .int .u32 (m:Int)∧m < 4294967296∧Hid (downs 8 r1=downs (8 - q) m)) (fun _ j=>8 - (intOf j).toNat)
 case atStart=>exact ⟨0,r1,by omega,rfl,rfl,l1,Lib.hid rfl⟩
 case round =>
  obtain ⟨q,m,hq,rfl,rfl,hm2,HD⟩:=hrel
  by_cases hq8:q < 8
  ·have HS:Hid (downs 8 r1=downs (8 - (q+1)) (down m)):=Lib.hid (by
    rw [HD.out,show 8 - q=(8 - (q+1))+1 by omega];rfl)
   rcases Nat.mod_two_eq_zero_or_one m with hm0 | hm1
   ·have hB:(bits .and .u32 (m:Int) 1 == 1)=false:=by rw [and1 m hm2,hm0];rfl
    have HM:=Lib.hid hm0
    clear hm0
    go_wp2
    go_round
    case rel=>exact ⟨q+1,m / 2,by omega,by go_num,by simp,by omega,Lib.hid (by rw [HS.out,down_even m HM.out])⟩
    case measure=>first | (simp [intOf];done) | (simp [intOf];omega)
   ·have hB:(bits .and .u32 (m:Int) 1 == 1)=true:=by rw [and1 m hm2,hm1];rfl
    obtain ⟨m2,e2,h2,l2⟩:=xor32 (m / 2) 3988292384 (by omega) (by omega)
    have e2' : bits .xor .u32 ((m:Int) / 2) 3988292384=(m2:Int):=by simpa using e2
    have HM:=Lib.hid hm1
    clear hm1 e2
    go_wp2
    go_round
    case rel=>exact ⟨q+1,m2,by omega,by go_num,rfl,l2,Lib.hid (by rw [HS.out,down_odd m HM.out,h2.out])⟩
    case measure=>first | (simp [intOf];done) | (simp [intOf];omega)
  ·have HE:Hid (downs 8 r1=m):=Lib.hid (by rw [HD.out,show 8 - q=0 by omega];rfl)
   go_wp2
   go_ret
   exact ⟨ret32 (by rw [← HE.out,h1.out];rfl),rfl⟩
theorem more_any (s:Nat) (A:Option Addr) (n cap B:Nat) (bs:List Nat) (w:World) (hs:s < 4294967296) (hx:Bys w B A bs) (hn:bs.length=n) (hm:n≤140737488355328) :
  Calls Try.prog 61 #[.int .u32 (s:Int),.slice A n cap] w fun e w'=>e = .returned (.int .u32 ((more s bs:Nat):Int))∧w=w':=by
 have HN:Hid (bs.length=n):=Lib.hid hn
 clear hn
 obtain ⟨r0,e0,h0,l0⟩:=not32 s hs
 go_enter Try.func61,Try.ntmps61
 go_wp2
 go_loop [5,12] (fun t i => ∃ k r:Nat,k≤n∧i = .int .i64 k∧t = .int .u32 (r:Int)∧r < 4294967296∧Hid (bytes r0 bs=bytes r (bs.drop k))) (fun _ i=>n - (intOf i).toNat)
 case atStart=>exact ⟨0,r0,Nat.zero_le _,rfl,rfl,l0,Lib.hid (by simp)⟩
 case round =>
  obtain ⟨k,r,hk,rfl,rfl,hr,HT⟩:=hrel
  by_cases hlt:k < n
  ·obtain ⟨b,off,c,rfl,hb,HX,hc,hcl⟩:=hx.at_ (j:=k) (by rw [HN.out];exact hlt)
   obtain ⟨r1,h1⟩:∃ r1,Hid (byte r c=r1):=⟨_,Lib.hid rfl⟩
   have hr1:r1 < 4294967296:=by rw [← h1.out];exact byte_lt hr (by omega)
   have HC:Hid (∀ W:World,Calls Try.prog 67 #[.int .u32 (r:Int),.int .u8 (c:Int)] W fun e w'=>e = .returned (.int .u32 (r1:Int))∧W=w'):=Lib.hid fun W=>by
    rw [← h1.out];exact come_any r c W hr hcl
   go_wp2_with ((with_reducible refine Calls.mono (HC.out _) ?_);rintro e w' ⟨rfl,rfl⟩)
   go_round
   case rel=>exact ⟨k+1,r1,by omega,by go_num,rfl,hr1,Lib.hid (by rw [HT.out,bytes_step HX.out,h1.out])⟩
   case measure=>first | (simp [intOf];done) | (simp [intOf];omega)
  ·have HE:Hid (bytes r0 bs=r):=Lib.hid (by rw [HT.out,List.drop_of_length_le (by rw [HN.out];omega)];rfl)
   obtain ⟨r3,e3,h3,l3⟩:=not32 r hr
   go_wp2
   go_ret
   exact ⟨ret32 (by rw [h3.out,← HE.out,h0.out];rfl),rfl⟩
theorem sum_any (A:Option Addr) (n cap B:Nat) (bs:List Nat) (w:World) (hx:Bys w B A bs) (hn:bs.length=n) (hm:n≤140737488355328) :
  Calls Try.prog 45 #[.slice A n cap] w fun e w'=>e = .returned (.int .u32 ((more 0 bs:Nat):Int))∧w=w':=by
 have HN:Hid (bs.length=n):=Lib.hid hn
 clear hn
 have HC:=Lib.hid (more_any 0 A n cap B bs w (by omega) hx HN.out hm)
 go_enter Try.func45,Try.ntmps45
 go_wp2_with ((refine Calls.mono HC.out ?_);rintro e w' ⟨rfl,rfl⟩)
 go_ret
 exact ⟨rfl,rfl⟩
theorem sum_is (A:Option Addr) (n cap B:Nat) (bs:List Nat) (v:Nat) (w:World) (hx:Bys w B A bs) (hn:bs.length=n) (hm:n≤140737488355328) (hv:more 0 bs=v) :
  Calls Try.prog 45 #[.slice A n cap] w fun e w'=>e = .returned (.int .u32 (v:Int))∧w=w':=by
 rw [← hv];exact sum_any A n cap B bs w hx hn hm
end Go.Proofs.Ytlipgnenbdchmaa.crc
end
section
namespace Go.Proofs.Ytlipgnenbdchmaa.crc
set_option maxRecDepth 20000
open Go.RowKit
set_option maxHeartbeats 1000000 in
theorem rmore (s:Nat) (A:Option Addr) (n cap B:Nat) (bs:List Nat) (w:World) (hs:s < 4294967296) (hx:Bys w B A bs) (hn:bs.length=n) (hm:n≤140737488355328) :
  Calls Try.prog 46 #[.int .u32 (s:Int),.slice A n cap] w fun e w'=>e = .returned (.int .u32 ((more s bs:Nat):Int))∧w=w':=by
 have HN:Hid (bs.length=n):=Lib.hid hn
 clear hn
 obtain ⟨r0,e0,h0,l0⟩:=xor32 s 4294967295 hs (by omega)
 have e0' : bits .xor .u32 (s:Int) 4294967295=(r0:Int):=e0
 clear e0
 go_enter Try.func46,Try.ntmps46
 go_wp2
 go_loop [5,6] (fun t i => ∃ k r:Nat,k≤n∧i = .int .i64 k∧t = .int .u32 (r:Int)∧r < 4294967296∧Hid (bytes r0 bs=bytes r (bs.drop k))) (fun _ i=>n - (intOf i).toNat)
 case atStart=>exact ⟨0,r0,Nat.zero_le _,rfl,rfl,l0,Lib.hid (by simp)⟩
 case round =>
  obtain ⟨k,r,hk,rfl,rfl,hr,HT⟩:=hrel
  by_cases hlt:k < n
  ·obtain ⟨b,off,c,rfl,hb,HX,hc,hcl⟩:=hx.at_ (j:=k) (by rw [HN.out];exact hlt)
   obtain ⟨r1,e1,h1,l1⟩:=xor32 r c hr (by omega)
   go_wp2
   go_loop [5,7] (fun t j => ∃ q m:Nat,q≤8∧j = .int .i64 q∧t = .int .u32 (m:Int)∧m < 4294967296∧Hid (downs 8 r1=downs (8 - q) m)) (fun _ j=>8 - (intOf j).toNat)
   case atStart=>exact ⟨0,r1,by omega,rfl,rfl,l1,Lib.hid rfl⟩
   case round =>
    obtain ⟨q,m,hq,rfl,rfl,hm2,HD⟩:=hrel
    by_cases hq8:q < 8
    ·have HS:Hid (downs 8 r1=downs (8 - (q+1)) (down m)):=Lib.hid (by
      rw [HD.out,show 8 - q=(8 - (q+1))+1 by omega];rfl)
     rcases Nat.mod_two_eq_zero_or_one m with hm0 | hm1
     ·have hB:((m:Int) % 2 == 1)=false:=by simp;omega
      have HM:=Lib.hid hm0
      clear hm0
      go_wp2
      go_round
      case rel=>exact ⟨q+1,m / 2,by omega,by go_num,by simp,by omega,Lib.hid (by rw [HS.out,down_even m HM.out])⟩
      case measure=>first | (simp [intOf];done) | (simp [intOf];omega)
     ·have hB:((m:Int) % 2 == 1)=true:=by simp;omega
      obtain ⟨m2,e2,h2,l2⟩:=xor32 (m / 2) 3988292384 (by omega) (by omega)
      have e2' : bits .xor .u32 ((m:Int) / 2) 3988292384=(m2:Int):=by simpa using e2
      have HM:=Lib.hid hm1
      clear hm1 e2
      go_wp2
      go_round
      case rel=>exact ⟨q+1,m2,by omega,by go_num,rfl,l2,Lib.hid (by rw [HS.out,down_odd m HM.out,h2.out])⟩
      case measure=>first | (simp [intOf];done) | (simp [intOf];omega)
    ·have HE:Hid (downs 8 r1=m):=Lib.hid (by rw [HD.out,show 8 - q=0 by omega];rfl)
     go_wp2
     go_round
     case rel=>exact ⟨k+1,m,by omega,by go_num,rfl,hm2,Lib.hid (by
      rw [HT.out,bytes_step HX.out]
      show bytes (downs 8 (r ^^^ c)) _=_
      rw [← h1.out,HE.out])⟩
     case measure=>first | (simp [intOf];done) | (simp [intOf];omega)
  ·have HE:Hid (bytes r0 bs=r):=Lib.hid (by rw [HT.out,List.drop_of_length_le (by rw [HN.out];omega)];rfl)
   obtain ⟨r3,e3,h3,l3⟩:=xor32 r 4294967295 hr (by omega)
   have e3' : bits .xor .u32 (r:Int) 4294967295=(r3:Int):=e3
   clear e3
   go_wp2
   go_ret
   exact ⟨ret32 (by rw [h3.out,← HE.out,h0.out];rfl),rfl⟩
theorem rsum (A:Option Addr) (n cap B:Nat) (bs:List Nat) (w:World) (hx:Bys w B A bs) (hn:bs.length=n) (hm:n≤140737488355328) :
  Calls Try.prog 24 #[.slice A n cap] w fun e w'=>e = .returned (.int .u32 ((more 0 bs:Nat):Int))∧w=w':=by
 have HN:Hid (bs.length=n):=Lib.hid hn
 clear hn
 have HC:=Lib.hid (rmore 0 A n cap B bs w (by omega) hx HN.out hm)
 go_enter Try.func24,Try.ntmps24
 go_wp2_with ((refine Calls.mono HC.out ?_);rintro e w' ⟨rfl,rfl⟩)
 go_ret
 exact ⟨rfl,rfl⟩
end Go.Proofs.Ytlipgnenbdchmaa.crc
end
