/-
  RecRefB
-/
import Derived.Test.YtcpahggkioagkaaMvf25
set_option linter.unusedVariables false
set_option linter.unusedSimpArgs false
namespace Go.Proofs.Ytcpahggkioagkaa.rec
open Go.RowKit Go.Proofs.Ytcpahggkioagkaa
set_option maxRecDepth 20000
set_option maxHeartbeats 1000000
theorem rright_4y (o a y d q p l s n z t:Int) (on:Bool) (hy:(y == -1)=false) {b:Bool} (hf:(⟨4,o,a,y,d,q,p,l,s,n,on,z,t⟩:Rc).fine) (h:right ⟨4,o,a,y,d,q,p,l,s,n,on,z,t⟩=b) (w:World):Calls Try.prog 30 #[.agg #[.int .i64 4,.int .i64 o,.int .i64 a,.int .i64 y,.int .i64 d,.int .i64 q,.int .i64 p,.int .i64 l,.int .i64 s,.int .i64 n,.bool on,.int .i64 z,.int .i64 t]] w fun e w'=>e = .returned (.bool b)∧Below w.heap.size w w':=by
 have HH:Hid ((okR ⟨4,o,a,y,d,q,p,l,s,n,on,z,t⟩ && decide ((⟨4,o,a,y,d,q,p,l,s,n,on,z,t⟩:Rc)=want ⟨4,o,a,y,d,q,p,l,s,n,on,z,t⟩))=b):=Lib.hid ((right_eq _).trans h)
 have HW:Hid (want ⟨4,o,a,y,d,q,p,l,s,n,on,z,t⟩=⟨4,0,a,y,0,0,0,l,s,n,false,0,0⟩):=Lib.hid (by simp [want, *])
 have HF:=Lib.hid hf
 have HFW:Hid ((⟨4,0,a,y,0,0,0,l,s,n,false,0,0⟩:Rc).fine):=Lib.hid (by simp only [Rc.fine] at hf ⊢;simp only [hf,in0,and_self])
 have hm' : True:=trivial
 clear h hf
 have hyy:y ≠ -1:=by simpa using hy
 by_cases ht7:0≤a
 ·by_cases ht6:a < 8
  ·by_cases ht5 : -1≤y
   ·by_cases ht4:y < 8
    ·by_cases ht3:0≤l
     ·by_cases ht2:0≤s
      ·by_cases ht1:0≤n
       ·have hok:okR ⟨4,o,a,y,d,q,p,l,s,n,on,z,t⟩=true:=by simp [okR];omega
        have hq:decide ((⟨4,o,a,y,d,q,p,l,s,n,on,z,t⟩:Rc)=⟨4,0,a,y,0,0,0,l,s,n,false,0,0⟩)=b:=by rw [← HH.out,hok,HW.out];rfl
        have heq:∀ W,(Op.equalIn 10000 58 (.agg #[.int .i64 4,.int .i64 o,.int .i64 a,.int .i64 y,.int .i64 d,.int .i64 q,.int .i64 p,.int .i64 l,.int .i64 s,.int .i64 n,.bool on,.int .i64 z,.int .i64 t]) (.agg #[.int .i64 4,.int .i64 0,.int .i64 a,.int .i64 y,.int .i64 0,.int .i64 0,.int .i64 0,.int .i64 l,.int .i64 s,.int .i64 n,.bool false,.int .i64 0,.int .i64 0])).run Try.prog W = .ok b W:=fun W=>eq13_of rfl rfl HF.out HFW.out hq W
        clear hok hq HH HW hm'
        go_enter Try.func30,Try.ntmps30
        go_wp2_with fail
        go_ret
        exact ⟨rfl,((Below.refl _ _).alloc (Nat.le_refl _) _).alloc (by simp) _⟩
       ·have hn:n < 0:=by omega
        clear ht1
        have hok:okR ⟨4,o,a,y,d,q,p,l,s,n,on,z,t⟩=false:=by simp [okR];omega
        obtain rfl:false=b:=by rw [← HH.out,hok];rfl
        clear hok HH HW hm'
        go_enter Try.func30,Try.ntmps30
        go_wp2_with fail
        go_ret
        exact ⟨rfl,((Below.refl _ _).alloc (Nat.le_refl _) _).alloc (by simp) _⟩
      ·have hn:s < 0:=by omega
       clear ht2
       have hok:okR ⟨4,o,a,y,d,q,p,l,s,n,on,z,t⟩=false:=by simp [okR];omega
       obtain rfl:false=b:=by rw [← HH.out,hok];rfl
       clear hok HH HW hm'
       go_enter Try.func30,Try.ntmps30
       go_wp2_with fail
       go_ret
       exact ⟨rfl,((Below.refl _ _).alloc (Nat.le_refl _) _).alloc (by simp) _⟩
     ·have hn:l < 0:=by omega
      clear ht3
      have hok:okR ⟨4,o,a,y,d,q,p,l,s,n,on,z,t⟩=false:=by simp [okR];omega
      obtain rfl:false=b:=by rw [← HH.out,hok];rfl
      clear hok HH HW hm'
      go_enter Try.func30,Try.ntmps30
      go_wp2_with fail
      go_ret
      exact ⟨rfl,((Below.refl _ _).alloc (Nat.le_refl _) _).alloc (by simp) _⟩
    ·have hn:8≤y:=by omega
     clear ht4
     have hok:okR ⟨4,o,a,y,d,q,p,l,s,n,on,z,t⟩=false:=by simp [okR];omega
     obtain rfl:false=b:=by rw [← HH.out,hok];rfl
     clear hok HH HW hm'
     go_enter Try.func30,Try.ntmps30
     go_wp2_with fail
     go_ret
     exact ⟨rfl,((Below.refl _ _).alloc (Nat.le_refl _) _).alloc (by simp) _⟩
   ·have hn:y < -1:=by omega
    clear ht5
    have hok:okR ⟨4,o,a,y,d,q,p,l,s,n,on,z,t⟩=false:=by simp [okR];omega
    obtain rfl:false=b:=by rw [← HH.out,hok];rfl
    clear hok HH HW hm'
    go_enter Try.func30,Try.ntmps30
    go_wp2_with fail
    go_ret
    exact ⟨rfl,((Below.refl _ _).alloc (Nat.le_refl _) _).alloc (by simp) _⟩
  ·have hn:8≤a:=by omega
   clear ht6
   have hok:okR ⟨4,o,a,y,d,q,p,l,s,n,on,z,t⟩=false:=by simp [okR];omega
   obtain rfl:false=b:=by rw [← HH.out,hok];rfl
   clear hok HH HW hm'
   go_enter Try.func30,Try.ntmps30
   go_wp2_with fail
   go_ret
   exact ⟨rfl,((Below.refl _ _).alloc (Nat.le_refl _) _).alloc (by simp) _⟩
 ·have hn:a < 0:=by omega
  clear ht7
  have hok:okR ⟨4,o,a,y,d,q,p,l,s,n,on,z,t⟩=false:=by simp [okR];omega
  obtain rfl:false=b:=by rw [← HH.out,hok];rfl
  clear hok HH HW hm'
  go_enter Try.func30,Try.ntmps30
  go_wp2_with fail
  go_ret
  exact ⟨rfl,((Below.refl _ _).alloc (Nat.le_refl _) _).alloc (by simp) _⟩
theorem rright_4l (o a d q p l s n z t:Int) (on:Bool) (hl:(l == 0)=false) {b:Bool} (hf:(⟨4,o,a, -1,d,q,p,l,s,n,on,z,t⟩:Rc).fine) (h:right ⟨4,o,a, -1,d,q,p,l,s,n,on,z,t⟩=b) (w:World):Calls Try.prog 30 #[.agg #[.int .i64 4,.int .i64 o,.int .i64 a,.int .i64 (-1),.int .i64 d,.int .i64 q,.int .i64 p,.int .i64 l,.int .i64 s,.int .i64 n,.bool on,.int .i64 z,.int .i64 t]] w fun e w'=>e = .returned (.bool b)∧Below w.heap.size w w':=by
 have HH:Hid ((okR ⟨4,o,a, -1,d,q,p,l,s,n,on,z,t⟩ && decide ((⟨4,o,a, -1,d,q,p,l,s,n,on,z,t⟩:Rc)=want ⟨4,o,a, -1,d,q,p,l,s,n,on,z,t⟩))=b):=Lib.hid ((right_eq _).trans h)
 have HW:Hid (want ⟨4,o,a, -1,d,q,p,l,s,n,on,z,t⟩=⟨4,0,a, -1,0,0,0,l,s,n,false,0,0⟩):=Lib.hid (by simp [want, *])
 have HF:=Lib.hid hf
 have HFW:Hid ((⟨4,0,a, -1,0,0,0,l,s,n,false,0,0⟩:Rc).fine):=Lib.hid (by simp only [Rc.fine] at hf ⊢;simp only [hf,in0,and_self])
 have hm' : True:=trivial
 clear h hf
 have hll:l≠0:=by simpa using hl
 by_cases ht6:0≤a
 ·by_cases ht5:a < 8
  ·by_cases ht4:0≤l
   ·by_cases ht3:0≤s
    ·by_cases ht2:0≤n
     ·have hok:okR ⟨4,o,a, -1,d,q,p,l,s,n,on,z,t⟩=false:=by simp [okR];omega
      obtain rfl:false=b:=by rw [← HH.out,hok];rfl
      clear hok HH HW hm'
      go_enter Try.func30,Try.ntmps30
      go_wp2_with fail
      go_ret
      exact ⟨rfl,((Below.refl _ _).alloc (Nat.le_refl _) _).alloc (by simp) _⟩
     ·have hn:n < 0:=by omega
      clear ht2
      have hok:okR ⟨4,o,a, -1,d,q,p,l,s,n,on,z,t⟩=false:=by simp [okR];omega
      obtain rfl:false=b:=by rw [← HH.out,hok];rfl
      clear hok HH HW hm'
      go_enter Try.func30,Try.ntmps30
      go_wp2_with fail
      go_ret
      exact ⟨rfl,((Below.refl _ _).alloc (Nat.le_refl _) _).alloc (by simp) _⟩
    ·have hn:s < 0:=by omega
     clear ht3
     have hok:okR ⟨4,o,a, -1,d,q,p,l,s,n,on,z,t⟩=false:=by simp [okR];omega
     obtain rfl:false=b:=by rw [← HH.out,hok];rfl
     clear hok HH HW hm'
     go_enter Try.func30,Try.ntmps30
     go_wp2_with fail
     go_ret
     exact ⟨rfl,((Below.refl _ _).alloc (Nat.le_refl _) _).alloc (by simp) _⟩
   ·have hn:l < 0:=by omega
    clear ht4
    have hok:okR ⟨4,o,a, -1,d,q,p,l,s,n,on,z,t⟩=false:=by simp [okR];omega
    obtain rfl:false=b:=by rw [← HH.out,hok];rfl
    clear hok HH HW hm'
    go_enter Try.func30,Try.ntmps30
    go_wp2_with fail
    go_ret
    exact ⟨rfl,((Below.refl _ _).alloc (Nat.le_refl _) _).alloc (by simp) _⟩
  ·have hn:8≤a:=by omega
   clear ht5
   have hok:okR ⟨4,o,a, -1,d,q,p,l,s,n,on,z,t⟩=false:=by simp [okR];omega
   obtain rfl:false=b:=by rw [← HH.out,hok];rfl
   clear hok HH HW hm'
   go_enter Try.func30,Try.ntmps30
   go_wp2_with fail
   go_ret
   exact ⟨rfl,((Below.refl _ _).alloc (Nat.le_refl _) _).alloc (by simp) _⟩
 ·have hn:a < 0:=by omega
  clear ht6
  have hok:okR ⟨4,o,a, -1,d,q,p,l,s,n,on,z,t⟩=false:=by simp [okR];omega
  obtain rfl:false=b:=by rw [← HH.out,hok];rfl
  clear hok HH HW hm'
  go_enter Try.func30,Try.ntmps30
  go_wp2_with fail
  go_ret
  exact ⟨rfl,((Below.refl _ _).alloc (Nat.le_refl _) _).alloc (by simp) _⟩
theorem rright_4s (o a d q p s n z t:Int) (on:Bool) (hs:(s == 0)=false) {b:Bool} (hf:(⟨4,o,a, -1,d,q,p,0,s,n,on,z,t⟩:Rc).fine) (h:right ⟨4,o,a, -1,d,q,p,0,s,n,on,z,t⟩=b) (w:World):Calls Try.prog 30 #[.agg #[.int .i64 4,.int .i64 o,.int .i64 a,.int .i64 (-1),.int .i64 d,.int .i64 q,.int .i64 p,.int .i64 0,.int .i64 s,.int .i64 n,.bool on,.int .i64 z,.int .i64 t]] w fun e w'=>e = .returned (.bool b)∧Below w.heap.size w w':=by
 have HH:Hid ((okR ⟨4,o,a, -1,d,q,p,0,s,n,on,z,t⟩ && decide ((⟨4,o,a, -1,d,q,p,0,s,n,on,z,t⟩:Rc)=want ⟨4,o,a, -1,d,q,p,0,s,n,on,z,t⟩))=b):=Lib.hid ((right_eq _).trans h)
 have HW:Hid (want ⟨4,o,a, -1,d,q,p,0,s,n,on,z,t⟩=⟨4,0,a, -1,0,0,0,0,s,n,false,0,0⟩):=Lib.hid (by simp [want, *])
 have HF:=Lib.hid hf
 have HFW:Hid ((⟨4,0,a, -1,0,0,0,0,s,n,false,0,0⟩:Rc).fine):=Lib.hid (by simp only [Rc.fine] at hf ⊢;simp only [hf,in0,and_self])
 have hm' : True:=trivial
 clear h hf
 have hss:s≠0:=by simpa using hs
 by_cases ht5:0≤a
 ·by_cases ht4:a < 8
  ·by_cases ht3:0≤s
   ·by_cases ht2:0≤n
    ·have hok:okR ⟨4,o,a, -1,d,q,p,0,s,n,on,z,t⟩=false:=by simp [okR];omega
     obtain rfl:false=b:=by rw [← HH.out,hok];rfl
     clear hok HH HW hm'
     go_enter Try.func30,Try.ntmps30
     go_wp2_with fail
     go_ret
     exact ⟨rfl,((Below.refl _ _).alloc (Nat.le_refl _) _).alloc (by simp) _⟩
    ·have hn:n < 0:=by omega
     clear ht2
     have hok:okR ⟨4,o,a, -1,d,q,p,0,s,n,on,z,t⟩=false:=by simp [okR];omega
     obtain rfl:false=b:=by rw [← HH.out,hok];rfl
     clear hok HH HW hm'
     go_enter Try.func30,Try.ntmps30
     go_wp2_with fail
     go_ret
     exact ⟨rfl,((Below.refl _ _).alloc (Nat.le_refl _) _).alloc (by simp) _⟩
   ·have hn:s < 0:=by omega
    clear ht3
    have hok:okR ⟨4,o,a, -1,d,q,p,0,s,n,on,z,t⟩=false:=by simp [okR];omega
    obtain rfl:false=b:=by rw [← HH.out,hok];rfl
    clear hok HH HW hm'
    go_enter Try.func30,Try.ntmps30
    go_wp2_with fail
    go_ret
    exact ⟨rfl,((Below.refl _ _).alloc (Nat.le_refl _) _).alloc (by simp) _⟩
  ·have hn:8≤a:=by omega
   clear ht4
   have hok:okR ⟨4,o,a, -1,d,q,p,0,s,n,on,z,t⟩=false:=by simp [okR];omega
   obtain rfl:false=b:=by rw [← HH.out,hok];rfl
   clear hok HH HW hm'
   go_enter Try.func30,Try.ntmps30
   go_wp2_with fail
   go_ret
   exact ⟨rfl,((Below.refl _ _).alloc (Nat.le_refl _) _).alloc (by simp) _⟩
 ·have hn:a < 0:=by omega
  clear ht5
  have hok:okR ⟨4,o,a, -1,d,q,p,0,s,n,on,z,t⟩=false:=by simp [okR];omega
  obtain rfl:false=b:=by rw [← HH.out,hok];rfl
  clear hok HH HW hm'
  go_enter Try.func30,Try.ntmps30
  go_wp2_with fail
  go_ret
  exact ⟨rfl,((Below.refl _ _).alloc (Nat.le_refl _) _).alloc (by simp) _⟩
theorem rright_4z (o a d q p n z t:Int) (on:Bool) {b:Bool} (hf:(⟨4,o,a, -1,d,q,p,0,0,n,on,z,t⟩:Rc).fine) (h:right ⟨4,o,a, -1,d,q,p,0,0,n,on,z,t⟩=b) (w:World):Calls Try.prog 30 #[.agg #[.int .i64 4,.int .i64 o,.int .i64 a,.int .i64 (-1),.int .i64 d,.int .i64 q,.int .i64 p,.int .i64 0,.int .i64 0,.int .i64 n,.bool on,.int .i64 z,.int .i64 t]] w fun e w'=>e = .returned (.bool b)∧Below w.heap.size w w':=by
 have HH:Hid ((okR ⟨4,o,a, -1,d,q,p,0,0,n,on,z,t⟩ && decide ((⟨4,o,a, -1,d,q,p,0,0,n,on,z,t⟩:Rc)=want ⟨4,o,a, -1,d,q,p,0,0,n,on,z,t⟩))=b):=Lib.hid ((right_eq _).trans h)
 have HW:Hid (want ⟨4,o,a, -1,d,q,p,0,0,n,on,z,t⟩=⟨4,0,a, -1,0,0,0,0,0,n,false,0,0⟩):=Lib.hid (by simp [want, *])
 have HF:=Lib.hid hf
 have HFW:Hid ((⟨4,0,a, -1,0,0,0,0,0,n,false,0,0⟩:Rc).fine):=Lib.hid (by simp only [Rc.fine] at hf ⊢;simp only [hf,in0,and_self])
 have hm' : True:=trivial
 clear h hf
 by_cases ht3:0≤a
 ·by_cases ht2:a < 8
  ·by_cases ht1:0≤n
   ·have hok:okR ⟨4,o,a, -1,d,q,p,0,0,n,on,z,t⟩=true:=by simp [okR];omega
    have hq:decide ((⟨4,o,a, -1,d,q,p,0,0,n,on,z,t⟩:Rc)=⟨4,0,a, -1,0,0,0,0,0,n,false,0,0⟩)=b:=by rw [← HH.out,hok,HW.out];rfl
    have heq:∀ W,(Op.equalIn 10000 58 (.agg #[.int .i64 4,.int .i64 o,.int .i64 a,.int .i64 (-1),.int .i64 d,.int .i64 q,.int .i64 p,.int .i64 0,.int .i64 0,.int .i64 n,.bool on,.int .i64 z,.int .i64 t]) (.agg #[.int .i64 4,.int .i64 0,.int .i64 a,.int .i64 (-1),.int .i64 0,.int .i64 0,.int .i64 0,.int .i64 0,.int .i64 0,.int .i64 n,.bool false,.int .i64 0,.int .i64 0])).run Try.prog W = .ok b W:=fun W=>eq13_of rfl rfl HF.out HFW.out hq W
    clear hok hq HH HW hm'
    go_enter Try.func30,Try.ntmps30
    go_wp2_with fail
    go_ret
    exact ⟨rfl,((Below.refl _ _).alloc (Nat.le_refl _) _).alloc (by simp) _⟩
   ·have hn:n < 0:=by omega
    clear ht1
    have hok:okR ⟨4,o,a, -1,d,q,p,0,0,n,on,z,t⟩=false:=by simp [okR];omega
    obtain rfl:false=b:=by rw [← HH.out,hok];rfl
    clear hok HH HW hm'
    go_enter Try.func30,Try.ntmps30
    go_wp2_with fail
    go_ret
    exact ⟨rfl,((Below.refl _ _).alloc (Nat.le_refl _) _).alloc (by simp) _⟩
  ·have hn:8≤a:=by omega
   clear ht2
   have hok:okR ⟨4,o,a, -1,d,q,p,0,0,n,on,z,t⟩=false:=by simp [okR];omega
   obtain rfl:false=b:=by rw [← HH.out,hok];rfl
   clear hok HH HW hm'
   go_enter Try.func30,Try.ntmps30
   go_wp2_with fail
   go_ret
   exact ⟨rfl,((Below.refl _ _).alloc (Nat.le_refl _) _).alloc (by simp) _⟩
 ·have hn:a < 0:=by omega
  clear ht3
  have hok:okR ⟨4,o,a, -1,d,q,p,0,0,n,on,z,t⟩=false:=by simp [okR];omega
  obtain rfl:false=b:=by rw [← HH.out,hok];rfl
  clear hok HH HW hm'
  go_enter Try.func30,Try.ntmps30
  go_wp2_with fail
  go_ret
  exact ⟨rfl,((Below.refl _ _).alloc (Nat.le_refl _) _).alloc (by simp) _⟩
end Go.Proofs.Ytcpahggkioagkaa.rec
