/-
  RecRefA
-/
import Derived.Test.YtcpahggkioagkaaMvf25
set_option linter.unusedVariables false
set_option linter.unusedSimpArgs false
namespace Go.Proofs.Ytcpahggkioagkaa.rec
open Go.RowKit Go.Proofs.Ytcpahggkioagkaa
set_option maxRecDepth 20000
set_option maxHeartbeats 1000000
theorem rright_1 (o a y d q p l s n z t:Int) (on:Bool) {b:Bool} (hf:(⟨1,o,a,y,d,q,p,l,s,n,on,z,t⟩:Rc).fine) (h:right ⟨1,o,a,y,d,q,p,l,s,n,on,z,t⟩=b) (w:World):Calls Try.prog 30 #[.agg #[.int .i64 1,.int .i64 o,.int .i64 a,.int .i64 y,.int .i64 d,.int .i64 q,.int .i64 p,.int .i64 l,.int .i64 s,.int .i64 n,.bool on,.int .i64 z,.int .i64 t]] w fun e w'=>e = .returned (.bool b)∧Below w.heap.size w w':=by
 have HH:Hid ((okR ⟨1,o,a,y,d,q,p,l,s,n,on,z,t⟩ && decide ((⟨1,o,a,y,d,q,p,l,s,n,on,z,t⟩:Rc)=want ⟨1,o,a,y,d,q,p,l,s,n,on,z,t⟩))=b):=Lib.hid ((right_eq _).trans h)
 have HW:Hid (want ⟨1,o,a,y,d,q,p,l,s,n,on,z,t⟩=⟨1,o,a,y,d,q,p,0,0,0,false,0,0⟩):=Lib.hid (by simp [want, *])
 have HF:=Lib.hid hf
 have HFW:Hid ((⟨1,o,a,y,d,q,p,0,0,0,false,0,0⟩:Rc).fine):=Lib.hid (by simp only [Rc.fine] at hf ⊢;simp only [hf,in0,and_self])
 have hm' : True:=trivial
 clear h hf
 rcases hmm:mayOrder o with _ | _
 ·have hm':=hmm
  simp only [mayOrder,decide_eq_false_iff_not] at hm'
  have HM:=Lib.hid hmm
  clear hmm
  have hok:okR ⟨1,o,a,y,d,q,p,l,s,n,on,z,t⟩=false:=by simp [okR];omega
  obtain rfl:false=b:=by rw [← HH.out,hok];rfl
  clear hok HH HW hm'
  go_enter Try.func30,Try.ntmps30
  go_wp2_with fail
  refine Calls.mono (rid_is o HM.out _) ?_
  rintro e w' ⟨rfl,rfl⟩
  go_wp2_with fail
  go_ret
  exact ⟨rfl,((Below.refl _ _).alloc (Nat.le_refl _) _).alloc (by simp) _⟩
 ·have hm':=hmm
  simp only [mayOrder,decide_eq_true_eq] at hm'
  have HM:=Lib.hid hmm
  clear hmm
  by_cases ht8:0≤a
  ·by_cases ht7:a < 8
   ·by_cases ht6:0≤y
    ·by_cases ht5:y < 8
     ·by_cases ht4:1≤d
      ·by_cases ht3:d≤2
       ·by_cases ht2:0 < q
        ·by_cases ht1:0 < p
         ·have hok:okR ⟨1,o,a,y,d,q,p,l,s,n,on,z,t⟩=true:=by simp [okR];omega
          have hq:decide ((⟨1,o,a,y,d,q,p,l,s,n,on,z,t⟩:Rc)=⟨1,o,a,y,d,q,p,0,0,0,false,0,0⟩)=b:=by rw [← HH.out,hok,HW.out];rfl
          have heq:∀ W,(Op.equalIn 10000 58 (.agg #[.int .i64 1,.int .i64 o,.int .i64 a,.int .i64 y,.int .i64 d,.int .i64 q,.int .i64 p,.int .i64 l,.int .i64 s,.int .i64 n,.bool on,.int .i64 z,.int .i64 t]) (.agg #[.int .i64 1,.int .i64 o,.int .i64 a,.int .i64 y,.int .i64 d,.int .i64 q,.int .i64 p,.int .i64 0,.int .i64 0,.int .i64 0,.bool false,.int .i64 0,.int .i64 0])).run Try.prog W = .ok b W:=fun W=>eq13_of rfl rfl HF.out HFW.out hq W
          clear hok hq HH HW hm'
          go_enter Try.func30,Try.ntmps30
          go_wp2_with fail
          refine Calls.mono (rid_is o HM.out _) ?_
          rintro e w' ⟨rfl,rfl⟩
          go_wp2_with fail
          go_ret
          exact ⟨rfl,((Below.refl _ _).alloc (Nat.le_refl _) _).alloc (by simp) _⟩
         ·have hn:p≤0:=by omega
          clear ht1
          have hok:okR ⟨1,o,a,y,d,q,p,l,s,n,on,z,t⟩=false:=by simp [okR];omega
          obtain rfl:false=b:=by rw [← HH.out,hok];rfl
          clear hok HH HW hm'
          go_enter Try.func30,Try.ntmps30
          go_wp2_with fail
          refine Calls.mono (rid_is o HM.out _) ?_
          rintro e w' ⟨rfl,rfl⟩
          go_wp2_with fail
          go_ret
          exact ⟨rfl,((Below.refl _ _).alloc (Nat.le_refl _) _).alloc (by simp) _⟩
        ·have hn:q≤0:=by omega
         clear ht2
         have hok:okR ⟨1,o,a,y,d,q,p,l,s,n,on,z,t⟩=false:=by simp [okR];omega
         obtain rfl:false=b:=by rw [← HH.out,hok];rfl
         clear hok HH HW hm'
         go_enter Try.func30,Try.ntmps30
         go_wp2_with fail
         refine Calls.mono (rid_is o HM.out _) ?_
         rintro e w' ⟨rfl,rfl⟩
         go_wp2_with fail
         go_ret
         exact ⟨rfl,((Below.refl _ _).alloc (Nat.le_refl _) _).alloc (by simp) _⟩
       ·have hn:2 < d:=by omega
        clear ht3
        have hok:okR ⟨1,o,a,y,d,q,p,l,s,n,on,z,t⟩=false:=by simp [okR];omega
        obtain rfl:false=b:=by rw [← HH.out,hok];rfl
        clear hok HH HW hm'
        go_enter Try.func30,Try.ntmps30
        go_wp2_with fail
        refine Calls.mono (rid_is o HM.out _) ?_
        rintro e w' ⟨rfl,rfl⟩
        go_wp2_with fail
        go_ret
        exact ⟨rfl,((Below.refl _ _).alloc (Nat.le_refl _) _).alloc (by simp) _⟩
      ·have hn:d < 1:=by omega
       clear ht4
       have hok:okR ⟨1,o,a,y,d,q,p,l,s,n,on,z,t⟩=false:=by simp [okR];omega
       obtain rfl:false=b:=by rw [← HH.out,hok];rfl
       clear hok HH HW hm'
       go_enter Try.func30,Try.ntmps30
       go_wp2_with fail
       refine Calls.mono (rid_is o HM.out _) ?_
       rintro e w' ⟨rfl,rfl⟩
       go_wp2_with fail
       go_ret
       exact ⟨rfl,((Below.refl _ _).alloc (Nat.le_refl _) _).alloc (by simp) _⟩
     ·have hn:8≤y:=by omega
      clear ht5
      have hok:okR ⟨1,o,a,y,d,q,p,l,s,n,on,z,t⟩=false:=by simp [okR];omega
      obtain rfl:false=b:=by rw [← HH.out,hok];rfl
      clear hok HH HW hm'
      go_enter Try.func30,Try.ntmps30
      go_wp2_with fail
      refine Calls.mono (rid_is o HM.out _) ?_
      rintro e w' ⟨rfl,rfl⟩
      go_wp2_with fail
      go_ret
      exact ⟨rfl,((Below.refl _ _).alloc (Nat.le_refl _) _).alloc (by simp) _⟩
    ·have hn:y < 0:=by omega
     clear ht6
     have hok:okR ⟨1,o,a,y,d,q,p,l,s,n,on,z,t⟩=false:=by simp [okR];omega
     obtain rfl:false=b:=by rw [← HH.out,hok];rfl
     clear hok HH HW hm'
     go_enter Try.func30,Try.ntmps30
     go_wp2_with fail
     refine Calls.mono (rid_is o HM.out _) ?_
     rintro e w' ⟨rfl,rfl⟩
     go_wp2_with fail
     go_ret
     exact ⟨rfl,((Below.refl _ _).alloc (Nat.le_refl _) _).alloc (by simp) _⟩
   ·have hn:8≤a:=by omega
    clear ht7
    have hok:okR ⟨1,o,a,y,d,q,p,l,s,n,on,z,t⟩=false:=by simp [okR];omega
    obtain rfl:false=b:=by rw [← HH.out,hok];rfl
    clear hok HH HW hm'
    go_enter Try.func30,Try.ntmps30
    go_wp2_with fail
    refine Calls.mono (rid_is o HM.out _) ?_
    rintro e w' ⟨rfl,rfl⟩
    go_wp2_with fail
    go_ret
    exact ⟨rfl,((Below.refl _ _).alloc (Nat.le_refl _) _).alloc (by simp) _⟩
  ·have hn:a < 0:=by omega
   clear ht8
   have hok:okR ⟨1,o,a,y,d,q,p,l,s,n,on,z,t⟩=false:=by simp [okR];omega
   obtain rfl:false=b:=by rw [← HH.out,hok];rfl
   clear hok HH HW hm'
   go_enter Try.func30,Try.ntmps30
   go_wp2_with fail
   refine Calls.mono (rid_is o HM.out _) ?_
   rintro e w' ⟨rfl,rfl⟩
   go_wp2_with fail
   go_ret
   exact ⟨rfl,((Below.refl _ _).alloc (Nat.le_refl _) _).alloc (by simp) _⟩
theorem rright_2 (o a y d q p l s n z t:Int) (on:Bool) {b:Bool} (hf:(⟨2,o,a,y,d,q,p,l,s,n,on,z,t⟩:Rc).fine) (h:right ⟨2,o,a,y,d,q,p,l,s,n,on,z,t⟩=b) (w:World):Calls Try.prog 30 #[.agg #[.int .i64 2,.int .i64 o,.int .i64 a,.int .i64 y,.int .i64 d,.int .i64 q,.int .i64 p,.int .i64 l,.int .i64 s,.int .i64 n,.bool on,.int .i64 z,.int .i64 t]] w fun e w'=>e = .returned (.bool b)∧Below w.heap.size w w':=by
 have HH:Hid ((okR ⟨2,o,a,y,d,q,p,l,s,n,on,z,t⟩ && decide ((⟨2,o,a,y,d,q,p,l,s,n,on,z,t⟩:Rc)=want ⟨2,o,a,y,d,q,p,l,s,n,on,z,t⟩))=b):=Lib.hid ((right_eq _).trans h)
 have HW:Hid (want ⟨2,o,a,y,d,q,p,l,s,n,on,z,t⟩=⟨2,o,0,0,0,q,p,0,0,0,false,0,0⟩):=Lib.hid (by simp [want, *])
 have HF:=Lib.hid hf
 have HFW:Hid ((⟨2,o,0,0,0,q,p,0,0,0,false,0,0⟩:Rc).fine):=Lib.hid (by simp only [Rc.fine] at hf ⊢;simp only [hf,in0,and_self])
 have hm' : True:=trivial
 clear h hf
 rcases hmm:mayOrder o with _ | _
 ·have hm':=hmm
  simp only [mayOrder,decide_eq_false_iff_not] at hm'
  have HM:=Lib.hid hmm
  clear hmm
  have hok:okR ⟨2,o,a,y,d,q,p,l,s,n,on,z,t⟩=false:=by simp [okR];omega
  obtain rfl:false=b:=by rw [← HH.out,hok];rfl
  clear hok HH HW hm'
  go_enter Try.func30,Try.ntmps30
  go_wp2_with fail
  refine Calls.mono (rid_is o HM.out _) ?_
  rintro e w' ⟨rfl,rfl⟩
  go_wp2_with fail
  go_ret
  exact ⟨rfl,((Below.refl _ _).alloc (Nat.le_refl _) _).alloc (by simp) _⟩
 ·have hm':=hmm
  simp only [mayOrder,decide_eq_true_eq] at hm'
  have HM:=Lib.hid hmm
  clear hmm
  by_cases ht2:0 < q
  ·by_cases ht1:0 < p
   ·have hok:okR ⟨2,o,a,y,d,q,p,l,s,n,on,z,t⟩=true:=by simp [okR];omega
    have hq:decide ((⟨2,o,a,y,d,q,p,l,s,n,on,z,t⟩:Rc)=⟨2,o,0,0,0,q,p,0,0,0,false,0,0⟩)=b:=by rw [← HH.out,hok,HW.out];rfl
    have heq:∀ W,(Op.equalIn 10000 58 (.agg #[.int .i64 2,.int .i64 o,.int .i64 a,.int .i64 y,.int .i64 d,.int .i64 q,.int .i64 p,.int .i64 l,.int .i64 s,.int .i64 n,.bool on,.int .i64 z,.int .i64 t]) (.agg #[.int .i64 2,.int .i64 o,.int .i64 0,.int .i64 0,.int .i64 0,.int .i64 q,.int .i64 p,.int .i64 0,.int .i64 0,.int .i64 0,.bool false,.int .i64 0,.int .i64 0])).run Try.prog W = .ok b W:=fun W=>eq13_of rfl rfl HF.out HFW.out hq W
    clear hok hq HH HW hm'
    go_enter Try.func30,Try.ntmps30
    go_wp2_with fail
    refine Calls.mono (rid_is o HM.out _) ?_
    rintro e w' ⟨rfl,rfl⟩
    go_wp2_with fail
    go_ret
    exact ⟨rfl,((Below.refl _ _).alloc (Nat.le_refl _) _).alloc (by simp) _⟩
   ·have hn:p≤0:=by omega
    clear ht1
    have hok:okR ⟨2,o,a,y,d,q,p,l,s,n,on,z,t⟩=false:=by simp [okR];omega
    obtain rfl:false=b:=by rw [← HH.out,hok];rfl
    clear hok HH HW hm'
    go_enter Try.func30,Try.ntmps30
    go_wp2_with fail
    refine Calls.mono (rid_is o HM.out _) ?_
    rintro e w' ⟨rfl,rfl⟩
    go_wp2_with fail
    go_ret
    exact ⟨rfl,((Below.refl _ _).alloc (Nat.le_refl _) _).alloc (by simp) _⟩
  ·have hn:q≤0:=by omega
   clear ht2
   have hok:okR ⟨2,o,a,y,d,q,p,l,s,n,on,z,t⟩=false:=by simp [okR];omega
   obtain rfl:false=b:=by rw [← HH.out,hok];rfl
   clear hok HH HW hm'
   go_enter Try.func30,Try.ntmps30
   go_wp2_with fail
   refine Calls.mono (rid_is o HM.out _) ?_
   rintro e w' ⟨rfl,rfl⟩
   go_wp2_with fail
   go_ret
   exact ⟨rfl,((Below.refl _ _).alloc (Nat.le_refl _) _).alloc (by simp) _⟩
end Go.Proofs.Ytcpahggkioagkaa.rec
