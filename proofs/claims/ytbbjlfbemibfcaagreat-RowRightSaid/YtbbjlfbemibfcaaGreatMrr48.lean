/-
  zhm
-/
import Derived.Test.YtbbjlfbemibfcaaGreatMrr14
import Derived.Test.YtbbjlfbemibfcaaGreatMrr12
import Derived.Test.YtbbjlfbemibfcaaGreatMrr47
import Derived.Deep.DeepCutAuto
set_option linter.unusedVariables false
set_option linter.unusedSimpArgs false
namespace Go.Proofs.YtbbjlfbemibfcaaGreat.limit
set_option maxRecDepth 20000
open Go.RowKit Go.Proofs.YtbbjlfbemibfcaaGreat Go.Proofs.YtbbjlfbemibfcaaGreat.num
theorem zeh {a b:Int} {c d:Bool} (h:a=b) (g:c=d):Ending.returned (.tuple #[.int .i64 a,.bool c]) = .returned (.tuple #[.int .i64 b,.bool d]):=by rw [h,g]
theorem qx4 (A:Option Addr) (n c B:Nat) (xs:List cell.Ce) (w:World) (hx:Cls w B A xs) (hn:xs.length=n) (hm:n≤140737488355328) :
  Calls Tryz.prog 61 #[.slice A n c] w fun e w'=>e = .returned (.tuple #[.int .i64 (whole xs).1,.bool (decide ((whole xs).2=0))])∧w=w':=by
 have HN:Hid (xs.length=n):=Lib.hid hn
 have HV:Hid (∀ s,tot 0 (xs.map cell.Ce.n)=some s→whole xs=(s,0)):=Lib.hid (fun s h=>by unfold whole;rw [h];rfl)
 have HZ:Hid (tot 0 (xs.map cell.Ce.n)=none→whole xs=(0,3)):=Lib.hid (fun h=>by unfold whole;rw [h];rfl)
 go_enter Tryz.func61,Tryz.ntmps61
 clear hn
 go_wp2
 go_loop [4,5] (fun t i => ∃ k:Nat,k≤n∧i = .int .i64 k∧∃ s:Int,t = .int .i64 s∧jq s∧Hid (tot 0 (xs.map cell.Ce.n)=tot s ((xs.map cell.Ce.n).drop k))) (fun _ i=>n - (intOf i).toNat)
 case atStart=>exact ⟨0,Nat.zero_le _,rfl,0,rfl,by unfold jq;omega,Lib.hid (by simp)⟩
 case round =>
  obtain ⟨k,hk,rfl,s,rfl,hs,HT⟩:=hrel
  by_cases hlt:k < n
  ·obtain ⟨b,off,xp,xb,xs',x,rfl,hb,HX,c0,c1,c2,hc,HF⟩:=hx.at_ (j:=k) (by rw [HN.out];exact hlt)
   have hxi:jq x:=HF.out.2.2.2
   have HX2:Hid ((xs.map cell.Ce.n)[k]?=some x):=Lib.hid (by rw [List.getElem?_map,HX.out];rfl)
   clear c0 c1 c2
   by_cases hin:jq (s+x)
   ·go_wp2_with ((with_reducible refine (qwn _ _ _ hs hxi hin).mono ?_);rintro e w' ⟨rfl,rfl⟩)
    go_round
    case rel=>exact ⟨k+1,by omega,by go_num,_,rfl,hin,Lib.hid (by rw [HT.out,qu7 s HX2.out hin])⟩
    case measure=>simp [intOf];omega
   ·have HE:Hid (tot 0 (xs.map cell.Ce.n)=none):=Lib.hid (by rw [HT.out,qyq s HX2.out hin])
    go_wp2_with ((with_reducible refine (qri _ _ _ hs hxi hin).mono ?_);rintro e w' ⟨rfl,rfl⟩)
    go_ret2
    exact ⟨zeh (by rw [HZ.out HE.out]) (by rw [HZ.out HE.out];rfl),rfl⟩
  ·have HE:Hid (tot 0 (xs.map cell.Ce.n)=some s):=Lib.hid (by rw [HT.out,List.drop_of_length_le (by rw [List.length_map,HN.out];omega)];rfl)
   go_wp2
   go_ret2
   exact ⟨zeh (by rw [HV.out _ HE.out]) (by rw [HV.out _ HE.out];rfl),rfl⟩
theorem q05 (A:Option Addr) (n c B:Nat) (xs:List cell.Ce) {s e:Int} (w:World) (hx:Cls w B A xs) (hn:xs.length=n) (hm:n≤140737488355328) (h:whole xs=(s,e)) {k:Bool} (hk:decide (e=0)=k) :
  Calls Tryz.prog 61 #[.slice A n c] w fun e' w'=>e' = .returned (.tuple #[.int .i64 s,.bool k])∧w=w':=by
 have key:=qx4 A n c B xs w hx hn hm
 rw [h] at key
 subst hk
 exact key
end Go.Proofs.YtbbjlfbemibfcaaGreat.limit
