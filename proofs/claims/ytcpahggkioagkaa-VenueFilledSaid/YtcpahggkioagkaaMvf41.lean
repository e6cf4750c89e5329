/-
  RecRefC
-/
import Derived.Test.YtcpahggkioagkaaMvf25
set_option linter.unusedVariables false
set_option linter.unusedSimpArgs false
namespace Go.Proofs.Ytcpahggkioagkaa.rec
open Go.RowKit Go.Proofs.Ytcpahggkioagkaa
set_option maxRecDepth 20000
set_option maxHeartbeats 1000000
theorem rright_3 (o a y d q p l s n z t:Int) (on:Bool) {b:Bool} (hf:(⟨3,o,a,y,d,q,p,l,s,n,on,z,t⟩:Rc).fine) (h:right ⟨3,o,a,y,d,q,p,l,s,n,on,z,t⟩=b) (w:World):Calls Try.prog 30 #[.agg #[.int .i64 3,.int .i64 o,.int .i64 a,.int .i64 y,.int .i64 d,.int .i64 q,.int .i64 p,.int .i64 l,.int .i64 s,.int .i64 n,.bool on,.int .i64 z,.int .i64 t]] w fun e w'=>e = .returned (.bool b)∧Below w.heap.size w w':=by
 have HH:Hid ((okR ⟨3,o,a,y,d,q,p,l,s,n,on,z,t⟩ && decide ((⟨3,o,a,y,d,q,p,l,s,n,on,z,t⟩:Rc)=want ⟨3,o,a,y,d,q,p,l,s,n,on,z,t⟩))=b):=Lib.hid ((right_eq _).trans h)
 have HW:Hid (want ⟨3,o,a,y,d,q,p,l,s,n,on,z,t⟩=⟨3,o,0,0,0,0,0,0,0,0,false,0,0⟩):=Lib.hid (by simp [want, *])
 have HF:=Lib.hid hf
 have HFW:Hid ((⟨3,o,0,0,0,0,0,0,0,0,false,0,0⟩:Rc).fine):=Lib.hid (by simp only [Rc.fine] at hf ⊢;simp only [hf,in0,and_self])
 have hm' : True:=trivial
 clear h hf
 rcases hmm:mayOrder o with _ | _
 ·have hm':=hmm
  simp only [mayOrder,decide_eq_false_iff_not] at hm'
  have HM:=Lib.hid hmm
  clear hmm
  have hok:okR ⟨3,o,a,y,d,q,p,l,s,n,on,z,t⟩=false:=by simp [okR];omega
  obtain rfl:false=b:=by rw [← HH.out,hok];rfl
  clear hok HH HW hm'
  go_enter Try.func30,Try.ntmps30
  go_wp2_with fail
  refine Calls.mono (rid_is o HM.out _) ?_
  rintro e w' ⟨rfl,rfl⟩
  go_wp2_with fail
  go_ret
  exact ⟨rfl,((Below.refl _ _).alloc (Nat.le_refl _) _).alloc (by simp) _⟩
 ·have hm':=hmm
  simp only [mayOrder,decide_eq_true_eq] at hm'
  have HM:=Lib.hid hmm
  clear hmm
  have hok:okR ⟨3,o,a,y,d,q,p,l,s,n,on,z,t⟩=true:=by simp [okR];omega
  have hq:decide ((⟨3,o,a,y,d,q,p,l,s,n,on,z,t⟩:Rc)=⟨3,o,0,0,0,0,0,0,0,0,false,0,0⟩)=b:=by rw [← HH.out,hok,HW.out];rfl
  have heq:∀ W,(Op.equalIn 10000 58 (.agg #[.int .i64 3,.int .i64 o,.int .i64 a,.int .i64 y,.int .i64 d,.int .i64 q,.int .i64 p,.int .i64 l,.int .i64 s,.int .i64 n,.bool on,.int .i64 z,.int .i64 t]) (.agg #[.int .i64 3,.int .i64 o,.int .i64 0,.int .i64 0,.int .i64 0,.int .i64 0,.int .i64 0,.int .i64 0,.int .i64 0,.int .i64 0,.bool false,.int .i64 0,.int .i64 0])).run Try.prog W = .ok b W:=fun W=>eq13_of rfl rfl HF.out HFW.out hq W
  clear hok hq HH HW hm'
  go_enter Try.func30,Try.ntmps30
  go_wp2_with fail
  refine Calls.mono (rid_is o HM.out _) ?_
  rintro e w' ⟨rfl,rfl⟩
  go_wp2_with fail
  go_ret
  exact ⟨rfl,((Below.refl _ _).alloc (Nat.le_refl _) _).alloc (by simp) _⟩
theorem rright_5 (o a y d q p l s n z t:Int) (on:Bool) {b:Bool} (hf:(⟨5,o,a,y,d,q,p,l,s,n,on,z,t⟩:Rc).fine) (h:right ⟨5,o,a,y,d,q,p,l,s,n,on,z,t⟩=b) (w:World):Calls Try.prog 30 #[.agg #[.int .i64 5,.int .i64 o,.int .i64 a,.int .i64 y,.int .i64 d,.int .i64 q,.int .i64 p,.int .i64 l,.int .i64 s,.int .i64 n,.bool on,.int .i64 z,.int .i64 t]] w fun e w'=>e = .returned (.bool b)∧Below w.heap.size w w':=by
 have HH:Hid ((okR ⟨5,o,a,y,d,q,p,l,s,n,on,z,t⟩ && decide ((⟨5,o,a,y,d,q,p,l,s,n,on,z,t⟩:Rc)=want ⟨5,o,a,y,d,q,p,l,s,n,on,z,t⟩))=b):=Lib.hid ((right_eq _).trans h)
 have HW:Hid (want ⟨5,o,a,y,d,q,p,l,s,n,on,z,t⟩=⟨5,0,0,0,0,0,0,0,0,0,on,0,0⟩):=Lib.hid (by simp [want, *])
 have HF:=Lib.hid hf
 have HFW:Hid ((⟨5,0,0,0,0,0,0,0,0,0,on,0,0⟩:Rc).fine):=Lib.hid (by simp only [Rc.fine] at hf ⊢;simp only [hf,in0,and_self])
 have hm' : True:=trivial
 clear h hf
 have hok:okR ⟨5,o,a,y,d,q,p,l,s,n,on,z,t⟩=true:=by simp [okR]<;>omega
 have hq:decide ((⟨5,o,a,y,d,q,p,l,s,n,on,z,t⟩:Rc)=⟨5,0,0,0,0,0,0,0,0,0,on,0,0⟩)=b:=by rw [← HH.out,hok,HW.out];rfl
 have heq:∀ W,(Op.equalIn 10000 58 (.agg #[.int .i64 5,.int .i64 o,.int .i64 a,.int .i64 y,.int .i64 d,.int .i64 q,.int .i64 p,.int .i64 l,.int .i64 s,.int .i64 n,.bool on,.int .i64 z,.int .i64 t]) (.agg #[.int .i64 5,.int .i64 0,.int .i64 0,.int .i64 0,.int .i64 0,.int .i64 0,.int .i64 0,.int .i64 0,.int .i64 0,.int .i64 0,.bool on,.int .i64 0,.int .i64 0])).run Try.prog W = .ok b W:=fun W=>eq13_of rfl rfl HF.out HFW.out hq W
 clear hok hq HH HW hm'
 go_enter Try.func30,Try.ntmps30
 go_wp2_with fail
 go_ret
 exact ⟨rfl,((Below.refl _ _).alloc (Nat.le_refl _) _).alloc (by simp) _⟩
theorem rright_63 (o a y d q p l s n z:Int) (on:Bool) {b:Bool} (hf:(⟨6,o,a,y,d,q,p,l,s,n,on,z,3⟩:Rc).fine) (h:right ⟨6,o,a,y,d,q,p,l,s,n,on,z,3⟩=b) (w:World):Calls Try.prog 30 #[.agg #[.int .i64 6,.int .i64 o,.int .i64 a,.int .i64 y,.int .i64 d,.int .i64 q,.int .i64 p,.int .i64 l,.int .i64 s,.int .i64 n,.bool on,.int .i64 z,.int .i64 3]] w fun e w'=>e = .returned (.bool b)∧Below w.heap.size w w':=by
 have HH:Hid ((okR ⟨6,o,a,y,d,q,p,l,s,n,on,z,3⟩ && decide ((⟨6,o,a,y,d,q,p,l,s,n,on,z,3⟩:Rc)=want ⟨6,o,a,y,d,q,p,l,s,n,on,z,3⟩))=b):=Lib.hid ((right_eq _).trans h)
 have HW:Hid (want ⟨6,o,a,y,d,q,p,l,s,n,on,z,3⟩=⟨6,o,0,0,0,q,0,0,0,0,false,z,3⟩):=Lib.hid (by simp [want, *])
 have HF:=Lib.hid hf
 have HFW:Hid ((⟨6,o,0,0,0,q,0,0,0,0,false,z,3⟩:Rc).fine):=Lib.hid (by simp only [Rc.fine] at hf ⊢;simp only [hf,in0,and_self])
 have hm' : True:=trivial
 clear h hf
 by_cases ht4:0 < z
 ·by_cases ht3:z≤1000000000
  ·rcases hmm:mayOrder o with _ | _
   ·have hm':=hmm
    simp only [mayOrder,decide_eq_false_iff_not] at hm'
    have HM:=Lib.hid hmm
    clear hmm
    have hok:okR ⟨6,o,a,y,d,q,p,l,s,n,on,z,3⟩=false:=by simp [okR];omega
    obtain rfl:false=b:=by rw [← HH.out,hok];rfl
    clear hok HH HW hm'
    go_enter Try.func30,Try.ntmps30
    go_wp2_with fail
    refine Calls.mono (rid_is o HM.out _) ?_
    rintro e w' ⟨rfl,rfl⟩
    go_wp2_with fail
    go_ret
    exact ⟨rfl,((Below.refl _ _).alloc (Nat.le_refl _) _).alloc (by simp) _⟩
   ·have hm':=hmm
    simp only [mayOrder,decide_eq_true_eq] at hm'
    have HM:=Lib.hid hmm
    clear hmm
    by_cases ht1:0 < q
    ·have hok:okR ⟨6,o,a,y,d,q,p,l,s,n,on,z,3⟩=true:=by simp [okR];omega
     have hq:decide ((⟨6,o,a,y,d,q,p,l,s,n,on,z,3⟩:Rc)=⟨6,o,0,0,0,q,0,0,0,0,false,z,3⟩)=b:=by rw [← HH.out,hok,HW.out];rfl
     have heq:∀ W,(Op.equalIn 10000 58 (.agg #[.int .i64 6,.int .i64 o,.int .i64 a,.int .i64 y,.int .i64 d,.int .i64 q,.int .i64 p,.int .i64 l,.int .i64 s,.int .i64 n,.bool on,.int .i64 z,.int .i64 3]) (.agg #[.int .i64 6,.int .i64 o,.int .i64 0,.int .i64 0,.int .i64 0,.int .i64 q,.int .i64 0,.int .i64 0,.int .i64 0,.int .i64 0,.bool false,.int .i64 z,.int .i64 3])).run Try.prog W = .ok b W:=fun W=>eq13_of rfl rfl HF.out HFW.out hq W
     clear hok hq HH HW hm'
     go_enter Try.func30,Try.ntmps30
     go_wp2_with fail
     refine Calls.mono (rid_is o HM.out _) ?_
     rintro e w' ⟨rfl,rfl⟩
     go_wp2_with fail
     go_ret
     exact ⟨rfl,((Below.refl _ _).alloc (Nat.le_refl _) _).alloc (by simp) _⟩
    ·have hn:q≤0:=by omega
     clear ht1
     have hok:okR ⟨6,o,a,y,d,q,p,l,s,n,on,z,3⟩=false:=by simp [okR];omega
     obtain rfl:false=b:=by rw [← HH.out,hok];rfl
     clear hok HH HW hm'
     go_enter Try.func30,Try.ntmps30
     go_wp2_with fail
     refine Calls.mono (rid_is o HM.out _) ?_
     rintro e w' ⟨rfl,rfl⟩
     go_wp2_with fail
     go_ret
     exact ⟨rfl,((Below.refl _ _).alloc (Nat.le_refl _) _).alloc (by simp) _⟩
  ·have hn:1000000000 < z:=by omega
   clear ht3
   have hok:okR ⟨6,o,a,y,d,q,p,l,s,n,on,z,3⟩=false:=by simp [okR];omega
   obtain rfl:false=b:=by rw [← HH.out,hok];rfl
   clear hok HH HW hm'
   go_enter Try.func30,Try.ntmps30
   go_wp2_with fail
   go_ret
   exact ⟨rfl,((Below.refl _ _).alloc (Nat.le_refl _) _).alloc (by simp) _⟩
 ·have hn:z≤0:=by omega
  clear ht4
  have hok:okR ⟨6,o,a,y,d,q,p,l,s,n,on,z,3⟩=false:=by simp [okR];omega
  obtain rfl:false=b:=by rw [← HH.out,hok];rfl
  clear hok HH HW hm'
  go_enter Try.func30,Try.ntmps30
  go_wp2_with fail
  go_ret
  exact ⟨rfl,((Below.refl _ _).alloc (Nat.le_refl _) _).alloc (by simp) _⟩
theorem rright_65 (o a y d q p l s n z:Int) (on:Bool) {b:Bool} (hf:(⟨6,o,a,y,d,q,p,l,s,n,on,z,5⟩:Rc).fine) (h:right ⟨6,o,a,y,d,q,p,l,s,n,on,z,5⟩=b) (w:World):Calls Try.prog 30 #[.agg #[.int .i64 6,.int .i64 o,.int .i64 a,.int .i64 y,.int .i64 d,.int .i64 q,.int .i64 p,.int .i64 l,.int .i64 s,.int .i64 n,.bool on,.int .i64 z,.int .i64 5]] w fun e w'=>e = .returned (.bool b)∧Below w.heap.size w w':=by
 have HH:Hid ((okR ⟨6,o,a,y,d,q,p,l,s,n,on,z,5⟩ && decide ((⟨6,o,a,y,d,q,p,l,s,n,on,z,5⟩:Rc)=want ⟨6,o,a,y,d,q,p,l,s,n,on,z,5⟩))=b):=Lib.hid ((right_eq _).trans h)
 have HW:Hid (want ⟨6,o,a,y,d,q,p,l,s,n,on,z,5⟩=⟨6,o,0,0,0,q,p,0,0,0,false,z,5⟩):=Lib.hid (by simp [want, *])
 have HF:=Lib.hid hf
 have HFW:Hid ((⟨6,o,0,0,0,q,p,0,0,0,false,z,5⟩:Rc).fine):=Lib.hid (by simp only [Rc.fine] at hf ⊢;simp only [hf,in0,and_self])
 have hm' : True:=trivial
 clear h hf
 by_cases ht5:0 < z
 ·by_cases ht4:z≤1000000000
  ·rcases hmm:mayOrder o with _ | _
   ·have hm':=hmm
    simp only [mayOrder,decide_eq_false_iff_not] at hm'
    have HM:=Lib.hid hmm
    clear hmm
    have hok:okR ⟨6,o,a,y,d,q,p,l,s,n,on,z,5⟩=false:=by simp [okR];omega
    obtain rfl:false=b:=by rw [← HH.out,hok];rfl
    clear hok HH HW hm'
    go_enter Try.func30,Try.ntmps30
    go_wp2_with fail
    refine Calls.mono (rid_is o HM.out _) ?_
    rintro e w' ⟨rfl,rfl⟩
    go_wp2_with fail
    go_ret
    exact ⟨rfl,((Below.refl _ _).alloc (Nat.le_refl _) _).alloc (by simp) _⟩
   ·have hm':=hmm
    simp only [mayOrder,decide_eq_true_eq] at hm'
    have HM:=Lib.hid hmm
    clear hmm
    by_cases ht2:0 < q
    ·by_cases ht1:0 < p
     ·have hok:okR ⟨6,o,a,y,d,q,p,l,s,n,on,z,5⟩=true:=by simp [okR];omega
      have hq:decide ((⟨6,o,a,y,d,q,p,l,s,n,on,z,5⟩:Rc)=⟨6,o,0,0,0,q,p,0,0,0,false,z,5⟩)=b:=by rw [← HH.out,hok,HW.out];rfl
      have heq:∀ W,(Op.equalIn 10000 58 (.agg #[.int .i64 6,.int .i64 o,.int .i64 a,.int .i64 y,.int .i64 d,.int .i64 q,.int .i64 p,.int .i64 l,.int .i64 s,.int .i64 n,.bool on,.int .i64 z,.int .i64 5]) (.agg #[.int .i64 6,.int .i64 o,.int .i64 0,.int .i64 0,.int .i64 0,.int .i64 q,.int .i64 p,.int .i64 0,.int .i64 0,.int .i64 0,.bool false,.int .i64 z,.int .i64 5])).run Try.prog W = .ok b W:=fun W=>eq13_of rfl rfl HF.out HFW.out hq W
      clear hok hq HH HW hm'
      go_enter Try.func30,Try.ntmps30
      go_wp2_with fail
      refine Calls.mono (rid_is o HM.out _) ?_
      rintro e w' ⟨rfl,rfl⟩
      go_wp2_with fail
      go_ret
      exact ⟨rfl,((Below.refl _ _).alloc (Nat.le_refl _) _).alloc (by simp) _⟩
     ·have hn:p≤0:=by omega
      clear ht1
      have hok:okR ⟨6,o,a,y,d,q,p,l,s,n,on,z,5⟩=false:=by simp [okR];omega
      obtain rfl:false=b:=by rw [← HH.out,hok];rfl
      clear hok HH HW hm'
      go_enter Try.func30,Try.ntmps30
      go_wp2_with fail
      refine Calls.mono (rid_is o HM.out _) ?_
      rintro e w' ⟨rfl,rfl⟩
      go_wp2_with fail
      go_ret
      exact ⟨rfl,((Below.refl _ _).alloc (Nat.le_refl _) _).alloc (by simp) _⟩
    ·have hn:q≤0:=by omega
     clear ht2
     have hok:okR ⟨6,o,a,y,d,q,p,l,s,n,on,z,5⟩=false:=by simp [okR];omega
     obtain rfl:false=b:=by rw [← HH.out,hok];rfl
     clear hok HH HW hm'
     go_enter Try.func30,Try.ntmps30
     go_wp2_with fail
     refine Calls.mono (rid_is o HM.out _) ?_
     rintro e w' ⟨rfl,rfl⟩
     go_wp2_with fail
     go_ret
     exact ⟨rfl,((Below.refl _ _).alloc (Nat.le_refl _) _).alloc (by simp) _⟩
  ·have hn:1000000000 < z:=by omega
   clear ht4
   have hok:okR ⟨6,o,a,y,d,q,p,l,s,n,on,z,5⟩=false:=by simp [okR];omega
   obtain rfl:false=b:=by rw [← HH.out,hok];rfl
   clear hok HH HW hm'
   go_enter Try.func30,Try.ntmps30
   go_wp2_with fail
   go_ret
   exact ⟨rfl,((Below.refl _ _).alloc (Nat.le_refl _) _).alloc (by simp) _⟩
 ·have hn:z≤0:=by omega
  clear ht5
  have hok:okR ⟨6,o,a,y,d,q,p,l,s,n,on,z,5⟩=false:=by simp [okR];omega
  obtain rfl:false=b:=by rw [← HH.out,hok];rfl
  clear hok HH HW hm'
  go_enter Try.func30,Try.ntmps30
  go_wp2_with fail
  go_ret
  exact ⟨rfl,((Below.refl _ _).alloc (Nat.le_refl _) _).alloc (by simp) _⟩
theorem rright_6t (o a y d q p l s n z t:Int) (on:Bool) (h3:(t == 3)=false) (h5:(t == 5)=false) {b:Bool} (hf:(⟨6,o,a,y,d,q,p,l,s,n,on,z,t⟩:Rc).fine) (h:right ⟨6,o,a,y,d,q,p,l,s,n,on,z,t⟩=b) (w:World):Calls Try.prog 30 #[.agg #[.int .i64 6,.int .i64 o,.int .i64 a,.int .i64 y,.int .i64 d,.int .i64 q,.int .i64 p,.int .i64 l,.int .i64 s,.int .i64 n,.bool on,.int .i64 z,.int .i64 t]] w fun e w'=>e = .returned (.bool b)∧Below w.heap.size w w':=by
 have h33:t≠3:=by simpa using h3
 have h55:t≠5:=by simpa using h5
 have HH:Hid ((okR ⟨6,o,a,y,d,q,p,l,s,n,on,z,t⟩ && decide ((⟨6,o,a,y,d,q,p,l,s,n,on,z,t⟩:Rc)=want ⟨6,o,a,y,d,q,p,l,s,n,on,z,t⟩))=b):=Lib.hid ((right_eq _).trans h)
 have HW:Hid (want ⟨6,o,a,y,d,q,p,l,s,n,on,z,t⟩=⟨6,o,0,0,0,0,0,0,0,0,false,z,t⟩):=Lib.hid (by simp [want, *])
 have HF:=Lib.hid hf
 have HFW:Hid ((⟨6,o,0,0,0,0,0,0,0,0,false,z,t⟩:Rc).fine):=Lib.hid (by simp only [Rc.fine] at hf ⊢;simp only [hf,in0,and_self])
 have hm' : True:=trivial
 clear h hf
 by_cases ht5:0 < z
 ·by_cases ht4:z≤1000000000
  ·by_cases ht3:1≤t
   ·by_cases ht2:t≤6
    ·rcases hmm:mayOrder o with _ | _
     ·have hm':=hmm
      simp only [mayOrder,decide_eq_false_iff_not] at hm'
      have HM:=Lib.hid hmm
      clear hmm
      have hok:okR ⟨6,o,a,y,d,q,p,l,s,n,on,z,t⟩=false:=by simp [okR,h33,h55]<;>omega
      obtain rfl:false=b:=by rw [← HH.out,hok];rfl
      clear hok HH HW hm'
      go_enter Try.func30,Try.ntmps30
      go_wp2_with fail
      refine Calls.mono (rid_is o HM.out _) ?_
      rintro e w' ⟨rfl,rfl⟩
      go_wp2_with fail
      go_ret
      exact ⟨rfl,((Below.refl _ _).alloc (Nat.le_refl _) _).alloc (by simp) _⟩
     ·have hm':=hmm
      simp only [mayOrder,decide_eq_true_eq] at hm'
      have HM:=Lib.hid hmm
      clear hmm
      have hok:okR ⟨6,o,a,y,d,q,p,l,s,n,on,z,t⟩=true:=by simp [okR,h33,h55]<;>omega
      have hq:decide ((⟨6,o,a,y,d,q,p,l,s,n,on,z,t⟩:Rc)=⟨6,o,0,0,0,0,0,0,0,0,false,z,t⟩)=b:=by rw [← HH.out,hok,HW.out];rfl
      have heq:∀ W,(Op.equalIn 10000 58 (.agg #[.int .i64 6,.int .i64 o,.int .i64 a,.int .i64 y,.int .i64 d,.int .i64 q,.int .i64 p,.int .i64 l,.int .i64 s,.int .i64 n,.bool on,.int .i64 z,.int .i64 t]) (.agg #[.int .i64 6,.int .i64 o,.int .i64 0,.int .i64 0,.int .i64 0,.int .i64 0,.int .i64 0,.int .i64 0,.int .i64 0,.int .i64 0,.bool false,.int .i64 z,.int .i64 t])).run Try.prog W = .ok b W:=fun W=>eq13_of rfl rfl HF.out HFW.out hq W
      clear hok hq HH HW hm'
      go_enter Try.func30,Try.ntmps30
      go_wp2_with fail
      refine Calls.mono (rid_is o HM.out _) ?_
      rintro e w' ⟨rfl,rfl⟩
      go_wp2_with fail
      go_ret
      exact ⟨rfl,((Below.refl _ _).alloc (Nat.le_refl _) _).alloc (by simp) _⟩
    ·have hn:6 < t:=by omega
     clear ht2
     have hok:okR ⟨6,o,a,y,d,q,p,l,s,n,on,z,t⟩=false:=by simp [okR,h33,h55]<;>omega
     obtain rfl:false=b:=by rw [← HH.out,hok];rfl
     clear hok HH HW hm'
     go_enter Try.func30,Try.ntmps30
     go_wp2_with fail
     go_ret
     exact ⟨rfl,((Below.refl _ _).alloc (Nat.le_refl _) _).alloc (by simp) _⟩
   ·have hn:t < 1:=by omega
    clear ht3
    have hok:okR ⟨6,o,a,y,d,q,p,l,s,n,on,z,t⟩=false:=by simp [okR,h33,h55]<;>omega
    obtain rfl:false=b:=by rw [← HH.out,hok];rfl
    clear hok HH HW hm'
    go_enter Try.func30,Try.ntmps30
    go_wp2_with fail
    go_ret
    exact ⟨rfl,((Below.refl _ _).alloc (Nat.le_refl _) _).alloc (by simp) _⟩
  ·have hn:1000000000 < z:=by omega
   clear ht4
   have hok:okR ⟨6,o,a,y,d,q,p,l,s,n,on,z,t⟩=false:=by simp [okR,h33,h55]<;>omega
   obtain rfl:false=b:=by rw [← HH.out,hok];rfl
   clear hok HH HW hm'
   go_enter Try.func30,Try.ntmps30
   go_wp2_with fail
   go_ret
   exact ⟨rfl,((Below.refl _ _).alloc (Nat.le_refl _) _).alloc (by simp) _⟩
 ·have hn:z≤0:=by omega
  clear ht5
  have hok:okR ⟨6,o,a,y,d,q,p,l,s,n,on,z,t⟩=false:=by simp [okR,h33,h55]<;>omega
  obtain rfl:false=b:=by rw [← HH.out,hok];rfl
  clear hok HH HW hm'
  go_enter Try.func30,Try.ntmps30
  go_wp2_with fail
  go_ret
  exact ⟨rfl,((Below.refl _ _).alloc (Nat.le_refl _) _).alloc (by simp) _⟩
theorem rright_0 (k o a y d q p l s n z t:Int) (on:Bool) (h1:(k == 1)=false) (h2:(k == 2)=false) (h3:(k == 3)=false) (h4:(k == 4)=false) (h5:(k == 5)=false) (h6:(k == 6)=false) {b:Bool} (hf:(⟨k,o,a,y,d,q,p,l,s,n,on,z,t⟩:Rc).fine) (h:right ⟨k,o,a,y,d,q,p,l,s,n,on,z,t⟩=b) (w:World):Calls Try.prog 30 #[.agg #[.int .i64 k,.int .i64 o,.int .i64 a,.int .i64 y,.int .i64 d,.int .i64 q,.int .i64 p,.int .i64 l,.int .i64 s,.int .i64 n,.bool on,.int .i64 z,.int .i64 t]] w fun e w'=>e = .returned (.bool b)∧Below w.heap.size w w':=by
 have g1:k≠1:=by simpa using h1
 have g2:k≠2:=by simpa using h2
 have g3:k≠3:=by simpa using h3
 have g4:k≠4:=by simpa using h4
 have g5:k≠5:=by simpa using h5
 have g6:k≠6:=by simpa using h6
 have HH:Hid ((okR ⟨k,o,a,y,d,q,p,l,s,n,on,z,t⟩ && decide ((⟨k,o,a,y,d,q,p,l,s,n,on,z,t⟩:Rc)=want ⟨k,o,a,y,d,q,p,l,s,n,on,z,t⟩))=b):=Lib.hid ((right_eq _).trans h)
 have HW:Hid (want ⟨k,o,a,y,d,q,p,l,s,n,on,z,t⟩=⟨k,0,0,0,0,0,0,0,0,0,false,0,0⟩):=Lib.hid (by simp [want, *])
 have HF:=Lib.hid hf
 have HFW:Hid ((⟨k,0,0,0,0,0,0,0,0,0,false,0,0⟩:Rc).fine):=Lib.hid (by simp only [Rc.fine] at hf ⊢;simp only [hf,in0,and_self])
 have hm' : True:=trivial
 clear h hf
 have hok:okR ⟨k,o,a,y,d,q,p,l,s,n,on,z,t⟩=false:=by simp [okR,g1,g2,g3,g4,g5,g6]<;>omega
 obtain rfl:false=b:=by rw [← HH.out,hok];rfl
 clear hok HH HW hm'
 go_enter Try.func30,Try.ntmps30
 go_wp2_with fail
 go_ret
 exact ⟨rfl,((Below.refl _ _).alloc (Nat.le_refl _) _).alloc (by simp) _⟩
end Go.Proofs.Ytcpahggkioagkaa.rec
