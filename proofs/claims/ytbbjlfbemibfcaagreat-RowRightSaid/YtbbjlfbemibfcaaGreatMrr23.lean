/-
  zdj, zdk, zgi, zgj, zgk, zgl
-/
import Derived.Test.YtbbjlfbemibfcaaGreatRows
import Derived.Test.YtbbjlfbemibfcaaGreatMrr22
import Derived.Test.YtbbjlfbemibfcaaGreatMrr11
import Derived.Test.YtbbjlfbemibfcaaGreatMrr05
set_option linter.unusedVariables false
set_option linter.unusedSimpArgs false
section
namespace Go.Proofs.YtbbjlfbemibfcaaGreat.rec
set_option maxRecDepth 20000
open Go.RowKit Go.Proofs.YtbbjlfbemibfcaaGreat
end Go.Proofs.YtbbjlfbemibfcaaGreat.rec
end
section
namespace Go.Proofs.YtbbjlfbemibfcaaGreat.rec
set_option maxRecDepth 20000
open Go.RowKit Go.Proofs.YtbbjlfbemibfcaaGreat
theorem q5m (k o a y d q p l s n:Int) (on:Bool) (z t:Int) {b0 b1 b2 b3 b4 b5:Int} (h:nums ⟨k,o,a,y,d,q,p,l,s,n,on,z,t⟩=⟨b0,b1,b2,b3,b4,b5⟩) (w:World):Calls Tryz.prog 99 #[.agg #[.int .i64 k,.int .i64 o,.int .i64 a,.int .i64 y,.int .i64 d,.int .i64 q,.int .i64 p,.int .i64 l,.int .i64 s,.int .i64 n,.bool on,.int .i64 z,.int .i64 t]] w fun e w'=>e = .returned (.agg #[.int .i64 b0,.int .i64 b1,.int .i64 b2,.int .i64 b3,.int .i64 b4,.int .i64 b5])∧Below w.heap.size w w':=by
 have hc:(k=1∧o=b0∧a=b1∧y=b2∧d=b3∧q=b4∧p=b5)∨(k=2∧o=b0∧q=b1∧p=b2∧0=b3∧0=b4∧0=b5)∨(k=3∧o=b0∧0=b1∧0=b2∧0=b3∧0=b4∧0=b5)∨(k=4∧a=b0∧y=b1∧l=b2∧s=b3∧n=b4∧0=b5)
   ∨ (k=5∧on=true∧1=b0∧0=b1∧0=b2∧0=b3∧0=b4∧0=b5)∨(k=5∧on=false∧0=b0∧0=b1∧0=b2∧0=b3∧0=b4∧0=b5)∨(k=6∧z=b0∧t=b1∧o=b2∧q=b3∧p=b4∧0=b5)
   ∨ ((k == 1)=false∧(k == 2)=false∧(k == 3)=false∧(k == 4)=false∧(k == 5)=false∧(k == 6)=false∧0=b0∧0=b1∧0=b2∧0=b3∧0=b4∧0=b5):=by
  unfold nums at h
  simp only at h
  by_cases h1:k=1
  ·rw [if_pos h1] at h;simp only [Ns.mk.injEq] at h;exact .inl ⟨h1,h⟩
  by_cases h2:k=2
  ·rw [if_neg h1,if_pos h2] at h;simp only [Ns.mk.injEq] at h;exact .inr (.inl ⟨h2,h⟩)
  by_cases h3:k=3
  ·rw [if_neg h1,if_neg h2,if_pos h3] at h;simp only [Ns.mk.injEq] at h;exact .inr (.inr (.inl ⟨h3,h⟩))
  by_cases h4:k=4
  ·rw [if_neg h1,if_neg h2,if_neg h3,if_pos h4] at h;simp only [Ns.mk.injEq] at h;exact .inr (.inr (.inr (.inl ⟨h4,h⟩)))
  by_cases h5:k=5
  ·rw [if_neg h1,if_neg h2,if_neg h3,if_neg h4,if_pos h5] at h
   cases on
   ·simp only [nz,Ns.mk.injEq,Bool.false_eq_true,if_false] at h;exact .inr (.inr (.inr (.inr (.inr (.inl ⟨h5,rfl,h⟩)))))
   ·simp only [nz,Ns.mk.injEq,if_true] at h;exact .inr (.inr (.inr (.inr (.inl ⟨h5,rfl,h⟩))))
  by_cases h6:k=6
  ·rw [if_neg h1,if_neg h2,if_neg h3,if_neg h4,if_neg h5,if_pos h6] at h;simp only [Ns.mk.injEq] at h;exact .inr (.inr (.inr (.inr (.inr (.inr (.inl ⟨h6,h⟩))))))
  ·rw [if_neg h1,if_neg h2,if_neg h3,if_neg h4,if_neg h5,if_neg h6] at h;simp only [nz,Ns.mk.injEq] at h
   exact .inr (.inr (.inr (.inr (.inr (.inr (.inr ⟨by simpa using h1,by simpa using h2,by simpa using h3,by simpa using h4,by simpa using h5,by simpa using h6,h⟩))))))
 clear h
 rcases hc with ⟨rfl,rfl,rfl,rfl,rfl,rfl,rfl⟩ | ⟨rfl,rfl,rfl,rfl,rfl,rfl,rfl⟩ | ⟨rfl,rfl,rfl,rfl,rfl,rfl,rfl⟩ | ⟨rfl,rfl,rfl,rfl,rfl,rfl,rfl⟩ | ⟨rfl,rfl,rfl,rfl,rfl,rfl,rfl,rfl⟩ | ⟨rfl,rfl,rfl,rfl,rfl,rfl,rfl,rfl⟩ | ⟨rfl,rfl,rfl,rfl,rfl,rfl,rfl⟩ | ⟨h1,h2,h3,h4,h5,h6,rfl,rfl,rfl,rfl,rfl,rfl⟩
 ·go_enter Tryz.func99,Tryz.ntmps99
  go_wp2
  exact bodyPost_ret (v:=.agg #[.int .i64 o,.int .i64 a,.int .i64 y,.int .i64 d,.int .i64 q,.int .i64 p]) (by simp [results,Tryz.results99,go_sem]) rfl ⟨rfl,((Below.refl _ _).alloc (Nat.le_refl _) _).alloc (by simp) _⟩
 ·go_enter Tryz.func99,Tryz.ntmps99
  go_wp2
  exact bodyPost_ret (v:=.agg #[.int .i64 o,.int .i64 q,.int .i64 p,.int .i64 0,.int .i64 0,.int .i64 0]) (by simp [results,Tryz.results99,go_sem]) rfl ⟨rfl,((Below.refl _ _).alloc (Nat.le_refl _) _).alloc (by simp) _⟩
 ·go_enter Tryz.func99,Tryz.ntmps99
  go_wp2
  exact bodyPost_ret (v:=.agg #[.int .i64 o,.int .i64 0,.int .i64 0,.int .i64 0,.int .i64 0,.int .i64 0]) (by simp [results,Tryz.results99,go_sem]) rfl ⟨rfl,((Below.refl _ _).alloc (Nat.le_refl _) _).alloc (by simp) _⟩
 ·go_enter Tryz.func99,Tryz.ntmps99
  go_wp2
  exact bodyPost_ret (v:=.agg #[.int .i64 a,.int .i64 y,.int .i64 l,.int .i64 s,.int .i64 n,.int .i64 0]) (by simp [results,Tryz.results99,go_sem]) rfl ⟨rfl,((Below.refl _ _).alloc (Nat.le_refl _) _).alloc (by simp) _⟩
 ·go_enter Tryz.func99,Tryz.ntmps99
  go_wp2
  exact bodyPost_ret (v:=.agg #[.int .i64 1,.int .i64 0,.int .i64 0,.int .i64 0,.int .i64 0,.int .i64 0]) (by simp [results,Tryz.results99,go_sem]) rfl ⟨rfl,((Below.refl _ _).alloc (Nat.le_refl _) _).alloc (by simp) _⟩
 ·go_enter Tryz.func99,Tryz.ntmps99
  go_wp2
  exact bodyPost_ret (v:=.agg #[.int .i64 0,.int .i64 0,.int .i64 0,.int .i64 0,.int .i64 0,.int .i64 0]) (by simp [results,Tryz.results99,go_sem]) rfl ⟨rfl,((Below.refl _ _).alloc (Nat.le_refl _) _).alloc (by simp) _⟩
 ·go_enter Tryz.func99,Tryz.ntmps99
  go_wp2
  exact bodyPost_ret (v:=.agg #[.int .i64 z,.int .i64 t,.int .i64 o,.int .i64 q,.int .i64 p,.int .i64 0]) (by simp [results,Tryz.results99,go_sem]) rfl ⟨rfl,((Below.refl _ _).alloc (Nat.le_refl _) _).alloc (by simp) _⟩
 ·go_enter Tryz.func99,Tryz.ntmps99
  go_wp2
  exact bodyPost_ret (v:=.agg #[.int .i64 0,.int .i64 0,.int .i64 0,.int .i64 0,.int .i64 0,.int .i64 0]) (by simp [results,Tryz.results99,go_sem]) rfl ⟨rfl,((Below.refl _ _).alloc (Nat.le_refl _) _).alloc (by simp) _⟩
end Go.Proofs.YtbbjlfbemibfcaaGreat.rec
end
section
namespace Go.Proofs.YtbbjlfbemibfcaaGreat.rec
set_option maxRecDepth 20000
open Go.RowKit Go.Proofs.YtbbjlfbemibfcaaGreat
open Go.Proofs.YtbbjlfbemibfcaaGreat.frame (jh)
theorem qsy (f g:Rc) (hf:f.fine) (hg:g.fine) (W:World) :
  (Op.equalIn 10000 46 (.agg (rc f)) (.agg (rc g))).run Tryz.prog W = .ok (decide (f=g)) W:=by
 have c1:Tryz.prog.cellsOf 2=1:=by kernel_rfl
 have c3:Tryz.prog.cellsOf 3=1:=by kernel_rfl
 have cb:Tryz.prog.cellsOf 4=1:=by kernel_rfl
 have kl:∀ f:Rc,f.fine→Tryz.prog.keyLits 3 46 (rc f).toList=some [.int .i64 f.k,.int .i64 f.o,.int .i64 f.a,.int .i64 f.y,.int .i64 f.d,.int .i64 f.q,.int .i64 f.p,.int .i64 f.l,.int .i64 f.s,.int .i64 f.n,.bool f.on,.int .i64 f.z,.int .i64 f.t]:=fun f ⟨h0,h1,h2,h3,h4,h5,h6,h7,h8,h9,h10,h11⟩=>by
  rw [qj2 2 _ Tryz.underlying46 (by kernel_rfl) (by kernel_rfl)]
  simp [rc,c1,c3,cb,Yl 1 _ Tryz.underlying2,Yl 1 _ Tryz.underlying3,qu6 1 _ Tryz.underlying4,wf64 h0,wf64 h1,wf64 h2,wf64 h3,wf64 h4,wf64 h5,wf64 h6,wf64 h7,wf64 h8,wf64 h9,wf64 h10,wf64 h11]
 refine qii (by kernel_rfl) 3 (by kernel_rfl) (by kernel_rfl) (kl f hf) (kl g hg) _ ?_ W
 obtain ⟨k,o,a,y,d,q,p,l,s,n,on,z,t⟩:=f
 obtain ⟨k',o',a',y',d',q',p',l',s',n',on',z',t'⟩:=g
 simp
theorem Vr {k o a y d q p l s n:Int} {on:Bool} {z t:Int} {k' o' a' y' d' q' p' l' s' n' : Int} {on' : Bool} {z' t' : Int} {f g:Rc} {r:Bool} (h:(⟨k,o,a,y,d,q,p,l,s,n,on,z,t⟩:Rc)=f) (h' : (⟨k',o',a',y',d',q',p',l',s',n',on',z',t'⟩:Rc)=g) (hf:f.fine) (hg:g.fine) (hr:decide (f=g)=r) (W:World) :
  (Op.equalIn 10000 46 (.agg #[.int .i64 k,.int .i64 o,.int .i64 a,.int .i64 y,.int .i64 d,.int .i64 q,.int .i64 p,.int .i64 l,.int .i64 s,.int .i64 n,.bool on,.int .i64 z,.int .i64 t]) (.agg #[.int .i64 k',.int .i64 o',.int .i64 a',.int .i64 y',.int .i64 d',.int .i64 q',.int .i64 p',.int .i64 l',.int .i64 s',.int .i64 n',.bool on',.int .i64 z',.int .i64 t'])).run Tryz.prog W = .ok r W:=by
 subst h h'
 rw [← hr]
 exact qsy ⟨k,o,a,y,d,q,p,l,s,n,on,z,t⟩ ⟨k',o',a',y',d',q',p',l',s',n',on',z',t'⟩ hf hg W
end Go.Proofs.YtbbjlfbemibfcaaGreat.rec
end
section
namespace Go.Proofs.YtbbjlfbemibfcaaGreat.rec
open Go.RowKit Go.Proofs.YtbbjlfbemibfcaaGreat
set_option maxRecDepth 20000
set_option maxHeartbeats 1000000
theorem Gy (x:Int) {b:Bool} (h:Ap x=b) (w:World):Calls Tryz.prog 85 #[.int .i64 x] w fun e w'=>e = .returned (.bool b)∧w=w':=by
 have hc:∃ r,Hid (Ap x=r)∧((x≤0∧r=false)∨(0 < x∧1000000000000 < x∧r=false)∨(0 < x∧x≤1000000000000∧r=true)):=by
  refine ⟨_,Lib.hid rfl,?_⟩
  simp only [Ap,decide_eq_false_iff_not,decide_eq_true_eq]
  omega
 obtain ⟨r,HR,hc⟩:=hc
 obtain rfl:r=b:=HR.out.symm.trans h
 clear h
 rcases hc with ⟨h0,rfl⟩ | ⟨h0,h1,rfl⟩ | ⟨h0,h1,rfl⟩
 all_goals
  clear HR
  go_enter Tryz.func85,Tryz.ntmps85
  go_wp2
  go_ret
  exact ⟨ziv (by first | rfl | (simp;omega)),rfl⟩
end Go.Proofs.YtbbjlfbemibfcaaGreat.rec
end
section
namespace Go.Proofs.YtbbjlfbemibfcaaGreat.rec
open Go.RowKit Go.Proofs.YtbbjlfbemibfcaaGreat
set_option maxRecDepth 20000
set_option maxHeartbeats 1000000
theorem q2g (o a y d q p l s n z t:Int) (on:Bool) {b:Bool} (hf:(⟨1,o,a,y,d,q,p,l,s,n,on,z,t⟩:Rc).fine) (h:right ⟨1,o,a,y,d,q,p,l,s,n,on,z,t⟩=b) (w:World):Calls Tryz.prog 56 #[.agg #[.int .i64 1,.int .i64 o,.int .i64 a,.int .i64 y,.int .i64 d,.int .i64 q,.int .i64 p,.int .i64 l,.int .i64 s,.int .i64 n,.bool on,.int .i64 z,.int .i64 t]] w fun e w'=>e = .returned (.bool b)∧Below w.heap.size w w':=by
 have HH:Hid ((okR ⟨1,o,a,y,d,q,p,l,s,n,on,z,t⟩ && decide ((⟨1,o,a,y,d,q,p,l,s,n,on,z,t⟩:Rc)=want ⟨1,o,a,y,d,q,p,l,s,n,on,z,t⟩))=b):=Lib.hid ((right_eq _).trans h)
 have HW:Hid (want ⟨1,o,a,y,d,q,p,l,s,n,on,z,t⟩=⟨1,o,a,y,d,q,p,0,0,0,false,0,0⟩):=Lib.hid (by simp [want, *])
 have HF:=Lib.hid hf
 have Jh:Hid ((⟨1,o,a,y,d,q,p,0,0,0,false,0,0⟩:Rc).fine):=Lib.hid (by simp only [Rc.fine] at hf ⊢;simp only [hf,En,and_self])
 have hm' : True:=trivial
 clear h hf
 rcases hmm:Ap o with _ | _
 ·have hm':=hmm
  simp only [Ap,decide_eq_false_iff_not] at hm'
  have HM:=Lib.hid hmm
  clear hmm
  have hok:okR ⟨1,o,a,y,d,q,p,l,s,n,on,z,t⟩=false:=by simp [okR];omega
  obtain rfl:false=b:=by rw [← HH.out,hok];rfl
  clear hok HH HW hm'
  go_enter Tryz.func56,Tryz.ntmps56
  go_wp2_with fail
  refine Calls.mono (Gy o HM.out _) ?_
  rintro e w' ⟨rfl,rfl⟩
  go_wp2_with fail
  go_ret
  exact ⟨rfl,((Below.refl _ _).alloc (Nat.le_refl _) _).alloc (by simp) _⟩
 ·have hm':=hmm
  simp only [Ap,decide_eq_true_eq] at hm'
  have HM:=Lib.hid hmm
  clear hmm
  by_cases ht8:0≤a
  ·by_cases ht7:a < 8
   ·by_cases ht6:0≤y
    ·by_cases Ro:y < 8
     ·by_cases Nr:1≤d
      ·by_cases ht3:d≤2
       ·by_cases ht2:0 < q
        ·by_cases ht1:0 < p
         ·have hok:okR ⟨1,o,a,y,d,q,p,l,s,n,on,z,t⟩=true:=by simp [okR];omega
          have hq:decide ((⟨1,o,a,y,d,q,p,l,s,n,on,z,t⟩:Rc)=⟨1,o,a,y,d,q,p,0,0,0,false,0,0⟩)=b:=by rw [← HH.out,hok,HW.out];rfl
          have heq:∀ W,(Op.equalIn 10000 46 (.agg #[.int .i64 1,.int .i64 o,.int .i64 a,.int .i64 y,.int .i64 d,.int .i64 q,.int .i64 p,.int .i64 l,.int .i64 s,.int .i64 n,.bool on,.int .i64 z,.int .i64 t]) (.agg #[.int .i64 1,.int .i64 o,.int .i64 a,.int .i64 y,.int .i64 d,.int .i64 q,.int .i64 p,.int .i64 0,.int .i64 0,.int .i64 0,.bool false,.int .i64 0,.int .i64 0])).run Tryz.prog W = .ok b W:=fun W=>Vr rfl rfl HF.out Jh.out hq W
          clear hok hq HH HW hm'
          go_enter Tryz.func56,Tryz.ntmps56
          go_wp2_with fail
          refine Calls.mono (Gy o HM.out _) ?_
          rintro e w' ⟨rfl,rfl⟩
          go_wp2_with fail
          go_ret
          exact ⟨rfl,((Below.refl _ _).alloc (Nat.le_refl _) _).alloc (by simp) _⟩
         ·have hn:p≤0:=by omega
          clear ht1
          have hok:okR ⟨1,o,a,y,d,q,p,l,s,n,on,z,t⟩=false:=by simp [okR];omega
          obtain rfl:false=b:=by rw [← HH.out,hok];rfl
          clear hok HH HW hm'
          go_enter Tryz.func56,Tryz.ntmps56
          go_wp2_with fail
          refine Calls.mono (Gy o HM.out _) ?_
          rintro e w' ⟨rfl,rfl⟩
          go_wp2_with fail
          go_ret
          exact ⟨rfl,((Below.refl _ _).alloc (Nat.le_refl _) _).alloc (by simp) _⟩
        ·have hn:q≤0:=by omega
         clear ht2
         have hok:okR ⟨1,o,a,y,d,q,p,l,s,n,on,z,t⟩=false:=by simp [okR];omega
         obtain rfl:false=b:=by rw [← HH.out,hok];rfl
         clear hok HH HW hm'
         go_enter Tryz.func56,Tryz.ntmps56
         go_wp2_with fail
         refine Calls.mono (Gy o HM.out _) ?_
         rintro e w' ⟨rfl,rfl⟩
         go_wp2_with fail
         go_ret
         exact ⟨rfl,((Below.refl _ _).alloc (Nat.le_refl _) _).alloc (by simp) _⟩
       ·have hn:2 < d:=by omega
        clear ht3
        have hok:okR ⟨1,o,a,y,d,q,p,l,s,n,on,z,t⟩=false:=by simp [okR];omega
        obtain rfl:false=b:=by rw [← HH.out,hok];rfl
        clear hok HH HW hm'
        go_enter Tryz.func56,Tryz.ntmps56
        go_wp2_with fail
        refine Calls.mono (Gy o HM.out _) ?_
        rintro e w' ⟨rfl,rfl⟩
        go_wp2_with fail
        go_ret
        exact ⟨rfl,((Below.refl _ _).alloc (Nat.le_refl _) _).alloc (by simp) _⟩
      ·have hn:d < 1:=by omega
       clear Nr
       have hok:okR ⟨1,o,a,y,d,q,p,l,s,n,on,z,t⟩=false:=by simp [okR];omega
       obtain rfl:false=b:=by rw [← HH.out,hok];rfl
       clear hok HH HW hm'
       go_enter Tryz.func56,Tryz.ntmps56
       go_wp2_with fail
       refine Calls.mono (Gy o HM.out _) ?_
       rintro e w' ⟨rfl,rfl⟩
       go_wp2_with fail
       go_ret
       exact ⟨rfl,((Below.refl _ _).alloc (Nat.le_refl _) _).alloc (by simp) _⟩
     ·have hn:8≤y:=by omega
      clear Ro
      have hok:okR ⟨1,o,a,y,d,q,p,l,s,n,on,z,t⟩=false:=by simp [okR];omega
      obtain rfl:false=b:=by rw [← HH.out,hok];rfl
      clear hok HH HW hm'
      go_enter Tryz.func56,Tryz.ntmps56
      go_wp2_with fail
      refine Calls.mono (Gy o HM.out _) ?_
      rintro e w' ⟨rfl,rfl⟩
      go_wp2_with fail
      go_ret
      exact ⟨rfl,((Below.refl _ _).alloc (Nat.le_refl _) _).alloc (by simp) _⟩
    ·have hn:y < 0:=by omega
     clear ht6
     have hok:okR ⟨1,o,a,y,d,q,p,l,s,n,on,z,t⟩=false:=by simp [okR];omega
     obtain rfl:false=b:=by rw [← HH.out,hok];rfl
     clear hok HH HW hm'
     go_enter Tryz.func56,Tryz.ntmps56
     go_wp2_with fail
     refine Calls.mono (Gy o HM.out _) ?_
     rintro e w' ⟨rfl,rfl⟩
     go_wp2_with fail
     go_ret
     exact ⟨rfl,((Below.refl _ _).alloc (Nat.le_refl _) _).alloc (by simp) _⟩
   ·have hn:8≤a:=by omega
    clear ht7
    have hok:okR ⟨1,o,a,y,d,q,p,l,s,n,on,z,t⟩=false:=by simp [okR];omega
    obtain rfl:false=b:=by rw [← HH.out,hok];rfl
    clear hok HH HW hm'
    go_enter Tryz.func56,Tryz.ntmps56
    go_wp2_with fail
    refine Calls.mono (Gy o HM.out _) ?_
    rintro e w' ⟨rfl,rfl⟩
    go_wp2_with fail
    go_ret
    exact ⟨rfl,((Below.refl _ _).alloc (Nat.le_refl _) _).alloc (by simp) _⟩
  ·have hn:a < 0:=by omega
   clear ht8
   have hok:okR ⟨1,o,a,y,d,q,p,l,s,n,on,z,t⟩=false:=by simp [okR];omega
   obtain rfl:false=b:=by rw [← HH.out,hok];rfl
   clear hok HH HW hm'
   go_enter Tryz.func56,Tryz.ntmps56
   go_wp2_with fail
   refine Calls.mono (Gy o HM.out _) ?_
   rintro e w' ⟨rfl,rfl⟩
   go_wp2_with fail
   go_ret
   exact ⟨rfl,((Below.refl _ _).alloc (Nat.le_refl _) _).alloc (by simp) _⟩
theorem q2h (o a y d q p l s n z t:Int) (on:Bool) {b:Bool} (hf:(⟨2,o,a,y,d,q,p,l,s,n,on,z,t⟩:Rc).fine) (h:right ⟨2,o,a,y,d,q,p,l,s,n,on,z,t⟩=b) (w:World):Calls Tryz.prog 56 #[.agg #[.int .i64 2,.int .i64 o,.int .i64 a,.int .i64 y,.int .i64 d,.int .i64 q,.int .i64 p,.int .i64 l,.int .i64 s,.int .i64 n,.bool on,.int .i64 z,.int .i64 t]] w fun e w'=>e = .returned (.bool b)∧Below w.heap.size w w':=by
 have HH:Hid ((okR ⟨2,o,a,y,d,q,p,l,s,n,on,z,t⟩ && decide ((⟨2,o,a,y,d,q,p,l,s,n,on,z,t⟩:Rc)=want ⟨2,o,a,y,d,q,p,l,s,n,on,z,t⟩))=b):=Lib.hid ((right_eq _).trans h)
 have HW:Hid (want ⟨2,o,a,y,d,q,p,l,s,n,on,z,t⟩=⟨2,o,0,0,0,q,p,0,0,0,false,0,0⟩):=Lib.hid (by simp [want, *])
 have HF:=Lib.hid hf
 have Jh:Hid ((⟨2,o,0,0,0,q,p,0,0,0,false,0,0⟩:Rc).fine):=Lib.hid (by simp only [Rc.fine] at hf ⊢;simp only [hf,En,and_self])
 have hm' : True:=trivial
 clear h hf
 rcases hmm:Ap o with _ | _
 ·have hm':=hmm
  simp only [Ap,decide_eq_false_iff_not] at hm'
  have HM:=Lib.hid hmm
  clear hmm
  have hok:okR ⟨2,o,a,y,d,q,p,l,s,n,on,z,t⟩=false:=by simp [okR];omega
  obtain rfl:false=b:=by rw [← HH.out,hok];rfl
  clear hok HH HW hm'
  go_enter Tryz.func56,Tryz.ntmps56
  go_wp2_with fail
  refine Calls.mono (Gy o HM.out _) ?_
  rintro e w' ⟨rfl,rfl⟩
  go_wp2_with fail
  go_ret
  exact ⟨rfl,((Below.refl _ _).alloc (Nat.le_refl _) _).alloc (by simp) _⟩
 ·have hm':=hmm
  simp only [Ap,decide_eq_true_eq] at hm'
  have HM:=Lib.hid hmm
  clear hmm
  by_cases ht2:0 < q
  ·by_cases ht1:0 < p
   ·have hok:okR ⟨2,o,a,y,d,q,p,l,s,n,on,z,t⟩=true:=by simp [okR];omega
    have hq:decide ((⟨2,o,a,y,d,q,p,l,s,n,on,z,t⟩:Rc)=⟨2,o,0,0,0,q,p,0,0,0,false,0,0⟩)=b:=by rw [← HH.out,hok,HW.out];rfl
    have heq:∀ W,(Op.equalIn 10000 46 (.agg #[.int .i64 2,.int .i64 o,.int .i64 a,.int .i64 y,.int .i64 d,.int .i64 q,.int .i64 p,.int .i64 l,.int .i64 s,.int .i64 n,.bool on,.int .i64 z,.int .i64 t]) (.agg #[.int .i64 2,.int .i64 o,.int .i64 0,.int .i64 0,.int .i64 0,.int .i64 q,.int .i64 p,.int .i64 0,.int .i64 0,.int .i64 0,.bool false,.int .i64 0,.int .i64 0])).run Tryz.prog W = .ok b W:=fun W=>Vr rfl rfl HF.out Jh.out hq W
    clear hok hq HH HW hm'
    go_enter Tryz.func56,Tryz.ntmps56
    go_wp2_with fail
    refine Calls.mono (Gy o HM.out _) ?_
    rintro e w' ⟨rfl,rfl⟩
    go_wp2_with fail
    go_ret
    exact ⟨rfl,((Below.refl _ _).alloc (Nat.le_refl _) _).alloc (by simp) _⟩
   ·have hn:p≤0:=by omega
    clear ht1
    have hok:okR ⟨2,o,a,y,d,q,p,l,s,n,on,z,t⟩=false:=by simp [okR];omega
    obtain rfl:false=b:=by rw [← HH.out,hok];rfl
    clear hok HH HW hm'
    go_enter Tryz.func56,Tryz.ntmps56
    go_wp2_with fail
    refine Calls.mono (Gy o HM.out _) ?_
    rintro e w' ⟨rfl,rfl⟩
    go_wp2_with fail
    go_ret
    exact ⟨rfl,((Below.refl _ _).alloc (Nat.le_refl _) _).alloc (by simp) _⟩
  ·have hn:q≤0:=by omega
   clear ht2
   have hok:okR ⟨2,o,a,y,d,q,p,l,s,n,on,z,t⟩=false:=by simp [okR];omega
   obtain rfl:false=b:=by rw [← HH.out,hok];rfl
   clear hok HH HW hm'
   go_enter Tryz.func56,Tryz.ntmps56
   go_wp2_with fail
   refine Calls.mono (Gy o HM.out _) ?_
   rintro e w' ⟨rfl,rfl⟩
   go_wp2_with fail
   go_ret
   exact ⟨rfl,((Below.refl _ _).alloc (Nat.le_refl _) _).alloc (by simp) _⟩
end Go.Proofs.YtbbjlfbemibfcaaGreat.rec
end
section
namespace Go.Proofs.YtbbjlfbemibfcaaGreat.rec
open Go.RowKit Go.Proofs.YtbbjlfbemibfcaaGreat
set_option maxRecDepth 20000
set_option maxHeartbeats 1000000
theorem qzl (o a y d q p l s n z t:Int) (on:Bool) (hy:(y == -1)=false) {b:Bool} (hf:(⟨4,o,a,y,d,q,p,l,s,n,on,z,t⟩:Rc).fine) (h:right ⟨4,o,a,y,d,q,p,l,s,n,on,z,t⟩=b) (w:World):Calls Tryz.prog 56 #[.agg #[.int .i64 4,.int .i64 o,.int .i64 a,.int .i64 y,.int .i64 d,.int .i64 q,.int .i64 p,.int .i64 l,.int .i64 s,.int .i64 n,.bool on,.int .i64 z,.int .i64 t]] w fun e w'=>e = .returned (.bool b)∧Below w.heap.size w w':=by
 have HH:Hid ((okR ⟨4,o,a,y,d,q,p,l,s,n,on,z,t⟩ && decide ((⟨4,o,a,y,d,q,p,l,s,n,on,z,t⟩:Rc)=want ⟨4,o,a,y,d,q,p,l,s,n,on,z,t⟩))=b):=Lib.hid ((right_eq _).trans h)
 have HW:Hid (want ⟨4,o,a,y,d,q,p,l,s,n,on,z,t⟩=⟨4,0,a,y,0,0,0,l,s,n,false,0,0⟩):=Lib.hid (by simp [want, *])
 have HF:=Lib.hid hf
 have Jh:Hid ((⟨4,0,a,y,0,0,0,l,s,n,false,0,0⟩:Rc).fine):=Lib.hid (by simp only [Rc.fine] at hf ⊢;simp only [hf,En,and_self])
 have hm' : True:=trivial
 clear h hf
 have Ug:y ≠ -1:=by simpa using hy
 by_cases ht7:0≤a
 ·by_cases ht6:a < 8
  ·by_cases Ro : -1≤y
   ·by_cases Nr:y < 8
    ·by_cases ht3:0≤l
     ·by_cases ht2:0≤s
      ·by_cases ht1:0≤n
       ·have hok:okR ⟨4,o,a,y,d,q,p,l,s,n,on,z,t⟩=true:=by simp [okR];omega
        have hq:decide ((⟨4,o,a,y,d,q,p,l,s,n,on,z,t⟩:Rc)=⟨4,0,a,y,0,0,0,l,s,n,false,0,0⟩)=b:=by rw [← HH.out,hok,HW.out];rfl
        have heq:∀ W,(Op.equalIn 10000 46 (.agg #[.int .i64 4,.int .i64 o,.int .i64 a,.int .i64 y,.int .i64 d,.int .i64 q,.int .i64 p,.int .i64 l,.int .i64 s,.int .i64 n,.bool on,.int .i64 z,.int .i64 t]) (.agg #[.int .i64 4,.int .i64 0,.int .i64 a,.int .i64 y,.int .i64 0,.int .i64 0,.int .i64 0,.int .i64 l,.int .i64 s,.int .i64 n,.bool false,.int .i64 0,.int .i64 0])).run Tryz.prog W = .ok b W:=fun W=>Vr rfl rfl HF.out Jh.out hq W
        clear hok hq HH HW hm'
        go_enter Tryz.func56,Tryz.ntmps56
        go_wp2_with fail
        go_ret
        exact ⟨rfl,((Below.refl _ _).alloc (Nat.le_refl _) _).alloc (by simp) _⟩
       ·have hn:n < 0:=by omega
        clear ht1
        have hok:okR ⟨4,o,a,y,d,q,p,l,s,n,on,z,t⟩=false:=by simp [okR];omega
        obtain rfl:false=b:=by rw [← HH.out,hok];rfl
        clear hok HH HW hm'
        go_enter Tryz.func56,Tryz.ntmps56
        go_wp2_with fail
        go_ret
        exact ⟨rfl,((Below.refl _ _).alloc (Nat.le_refl _) _).alloc (by simp) _⟩
      ·have hn:s < 0:=by omega
       clear ht2
       have hok:okR ⟨4,o,a,y,d,q,p,l,s,n,on,z,t⟩=false:=by simp [okR];omega
       obtain rfl:false=b:=by rw [← HH.out,hok];rfl
       clear hok HH HW hm'
       go_enter Tryz.func56,Tryz.ntmps56
       go_wp2_with fail
       go_ret
       exact ⟨rfl,((Below.refl _ _).alloc (Nat.le_refl _) _).alloc (by simp) _⟩
     ·have hn:l < 0:=by omega
      clear ht3
      have hok:okR ⟨4,o,a,y,d,q,p,l,s,n,on,z,t⟩=false:=by simp [okR];omega
      obtain rfl:false=b:=by rw [← HH.out,hok];rfl
      clear hok HH HW hm'
      go_enter Tryz.func56,Tryz.ntmps56
      go_wp2_with fail
      go_ret
      exact ⟨rfl,((Below.refl _ _).alloc (Nat.le_refl _) _).alloc (by simp) _⟩
    ·have hn:8≤y:=by omega
     clear Nr
     have hok:okR ⟨4,o,a,y,d,q,p,l,s,n,on,z,t⟩=false:=by simp [okR];omega
     obtain rfl:false=b:=by rw [← HH.out,hok];rfl
     clear hok HH HW hm'
     go_enter Tryz.func56,Tryz.ntmps56
     go_wp2_with fail
     go_ret
     exact ⟨rfl,((Below.refl _ _).alloc (Nat.le_refl _) _).alloc (by simp) _⟩
   ·have hn:y < -1:=by omega
    clear Ro
    have hok:okR ⟨4,o,a,y,d,q,p,l,s,n,on,z,t⟩=false:=by simp [okR];omega
    obtain rfl:false=b:=by rw [← HH.out,hok];rfl
    clear hok HH HW hm'
    go_enter Tryz.func56,Tryz.ntmps56
    go_wp2_with fail
    go_ret
    exact ⟨rfl,((Below.refl _ _).alloc (Nat.le_refl _) _).alloc (by simp) _⟩
  ·have hn:8≤a:=by omega
   clear ht6
   have hok:okR ⟨4,o,a,y,d,q,p,l,s,n,on,z,t⟩=false:=by simp [okR];omega
   obtain rfl:false=b:=by rw [← HH.out,hok];rfl
   clear hok HH HW hm'
   go_enter Tryz.func56,Tryz.ntmps56
   go_wp2_with fail
   go_ret
   exact ⟨rfl,((Below.refl _ _).alloc (Nat.le_refl _) _).alloc (by simp) _⟩
 ·have hn:a < 0:=by omega
  clear ht7
  have hok:okR ⟨4,o,a,y,d,q,p,l,s,n,on,z,t⟩=false:=by simp [okR];omega
  obtain rfl:false=b:=by rw [← HH.out,hok];rfl
  clear hok HH HW hm'
  go_enter Tryz.func56,Tryz.ntmps56
  go_wp2_with fail
  go_ret
  exact ⟨rfl,((Below.refl _ _).alloc (Nat.le_refl _) _).alloc (by simp) _⟩
theorem qzm (o a d q p l s n z t:Int) (on:Bool) (hl:(l == 0)=false) {b:Bool} (hf:(⟨4,o,a, -1,d,q,p,l,s,n,on,z,t⟩:Rc).fine) (h:right ⟨4,o,a, -1,d,q,p,l,s,n,on,z,t⟩=b) (w:World):Calls Tryz.prog 56 #[.agg #[.int .i64 4,.int .i64 o,.int .i64 a,.int .i64 (-1),.int .i64 d,.int .i64 q,.int .i64 p,.int .i64 l,.int .i64 s,.int .i64 n,.bool on,.int .i64 z,.int .i64 t]] w fun e w'=>e = .returned (.bool b)∧Below w.heap.size w w':=by
 have HH:Hid ((okR ⟨4,o,a, -1,d,q,p,l,s,n,on,z,t⟩ && decide ((⟨4,o,a, -1,d,q,p,l,s,n,on,z,t⟩:Rc)=want ⟨4,o,a, -1,d,q,p,l,s,n,on,z,t⟩))=b):=Lib.hid ((right_eq _).trans h)
 have HW:Hid (want ⟨4,o,a, -1,d,q,p,l,s,n,on,z,t⟩=⟨4,0,a, -1,0,0,0,l,s,n,false,0,0⟩):=Lib.hid (by simp [want, *])
 have HF:=Lib.hid hf
 have Jh:Hid ((⟨4,0,a, -1,0,0,0,l,s,n,false,0,0⟩:Rc).fine):=Lib.hid (by simp only [Rc.fine] at hf ⊢;simp only [hf,En,and_self])
 have hm' : True:=trivial
 clear h hf
 have hll:l≠0:=by simpa using hl
 by_cases ht6:0≤a
 ·by_cases Ro:a < 8
  ·by_cases Nr:0≤l
   ·by_cases ht3:0≤s
    ·by_cases ht2:0≤n
     ·have hok:okR ⟨4,o,a, -1,d,q,p,l,s,n,on,z,t⟩=false:=by simp [okR];omega
      obtain rfl:false=b:=by rw [← HH.out,hok];rfl
      clear hok HH HW hm'
      go_enter Tryz.func56,Tryz.ntmps56
      go_wp2_with fail
      go_ret
      exact ⟨rfl,((Below.refl _ _).alloc (Nat.le_refl _) _).alloc (by simp) _⟩
     ·have hn:n < 0:=by omega
      clear ht2
      have hok:okR ⟨4,o,a, -1,d,q,p,l,s,n,on,z,t⟩=false:=by simp [okR];omega
      obtain rfl:false=b:=by rw [← HH.out,hok];rfl
      clear hok HH HW hm'
      go_enter Tryz.func56,Tryz.ntmps56
      go_wp2_with fail
      go_ret
      exact ⟨rfl,((Below.refl _ _).alloc (Nat.le_refl _) _).alloc (by simp) _⟩
    ·have hn:s < 0:=by omega
     clear ht3
     have hok:okR ⟨4,o,a, -1,d,q,p,l,s,n,on,z,t⟩=false:=by simp [okR];omega
     obtain rfl:false=b:=by rw [← HH.out,hok];rfl
     clear hok HH HW hm'
     go_enter Tryz.func56,Tryz.ntmps56
     go_wp2_with fail
     go_ret
     exact ⟨rfl,((Below.refl _ _).alloc (Nat.le_refl _) _).alloc (by simp) _⟩
   ·have hn:l < 0:=by omega
    clear Nr
    have hok:okR ⟨4,o,a, -1,d,q,p,l,s,n,on,z,t⟩=false:=by simp [okR];omega
    obtain rfl:false=b:=by rw [← HH.out,hok];rfl
    clear hok HH HW hm'
    go_enter Tryz.func56,Tryz.ntmps56
    go_wp2_with fail
    go_ret
    exact ⟨rfl,((Below.refl _ _).alloc (Nat.le_refl _) _).alloc (by simp) _⟩
  ·have hn:8≤a:=by omega
   clear Ro
   have hok:okR ⟨4,o,a, -1,d,q,p,l,s,n,on,z,t⟩=false:=by simp [okR];omega
   obtain rfl:false=b:=by rw [← HH.out,hok];rfl
   clear hok HH HW hm'
   go_enter Tryz.func56,Tryz.ntmps56
   go_wp2_with fail
   go_ret
   exact ⟨rfl,((Below.refl _ _).alloc (Nat.le_refl _) _).alloc (by simp) _⟩
 ·have hn:a < 0:=by omega
  clear ht6
  have hok:okR ⟨4,o,a, -1,d,q,p,l,s,n,on,z,t⟩=false:=by simp [okR];omega
  obtain rfl:false=b:=by rw [← HH.out,hok];rfl
  clear hok HH HW hm'
  go_enter Tryz.func56,Tryz.ntmps56
  go_wp2_with fail
  go_ret
  exact ⟨rfl,((Below.refl _ _).alloc (Nat.le_refl _) _).alloc (by simp) _⟩
theorem qzn (o a d q p s n z t:Int) (on:Bool) (hs:(s == 0)=false) {b:Bool} (hf:(⟨4,o,a, -1,d,q,p,0,s,n,on,z,t⟩:Rc).fine) (h:right ⟨4,o,a, -1,d,q,p,0,s,n,on,z,t⟩=b) (w:World):Calls Tryz.prog 56 #[.agg #[.int .i64 4,.int .i64 o,.int .i64 a,.int .i64 (-1),.int .i64 d,.int .i64 q,.int .i64 p,.int .i64 0,.int .i64 s,.int .i64 n,.bool on,.int .i64 z,.int .i64 t]] w fun e w'=>e = .returned (.bool b)∧Below w.heap.size w w':=by
 have HH:Hid ((okR ⟨4,o,a, -1,d,q,p,0,s,n,on,z,t⟩ && decide ((⟨4,o,a, -1,d,q,p,0,s,n,on,z,t⟩:Rc)=want ⟨4,o,a, -1,d,q,p,0,s,n,on,z,t⟩))=b):=Lib.hid ((right_eq _).trans h)
 have HW:Hid (want ⟨4,o,a, -1,d,q,p,0,s,n,on,z,t⟩=⟨4,0,a, -1,0,0,0,0,s,n,false,0,0⟩):=Lib.hid (by simp [want, *])
 have HF:=Lib.hid hf
 have Jh:Hid ((⟨4,0,a, -1,0,0,0,0,s,n,false,0,0⟩:Rc).fine):=Lib.hid (by simp only [Rc.fine] at hf ⊢;simp only [hf,En,and_self])
 have hm' : True:=trivial
 clear h hf
 have hss:s≠0:=by simpa using hs
 by_cases Ro:0≤a
 ·by_cases Nr:a < 8
  ·by_cases ht3:0≤s
   ·by_cases ht2:0≤n
    ·have hok:okR ⟨4,o,a, -1,d,q,p,0,s,n,on,z,t⟩=false:=by simp [okR];omega
     obtain rfl:false=b:=by rw [← HH.out,hok];rfl
     clear hok HH HW hm'
     go_enter Tryz.func56,Tryz.ntmps56
     go_wp2_with fail
     go_ret
     exact ⟨rfl,((Below.refl _ _).alloc (Nat.le_refl _) _).alloc (by simp) _⟩
    ·have hn:n < 0:=by omega
     clear ht2
     have hok:okR ⟨4,o,a, -1,d,q,p,0,s,n,on,z,t⟩=false:=by simp [okR];omega
     obtain rfl:false=b:=by rw [← HH.out,hok];rfl
     clear hok HH HW hm'
     go_enter Tryz.func56,Tryz.ntmps56
     go_wp2_with fail
     go_ret
     exact ⟨rfl,((Below.refl _ _).alloc (Nat.le_refl _) _).alloc (by simp) _⟩
   ·have hn:s < 0:=by omega
    clear ht3
    have hok:okR ⟨4,o,a, -1,d,q,p,0,s,n,on,z,t⟩=false:=by simp [okR];omega
    obtain rfl:false=b:=by rw [← HH.out,hok];rfl
    clear hok HH HW hm'
    go_enter Tryz.func56,Tryz.ntmps56
    go_wp2_with fail
    go_ret
    exact ⟨rfl,((Below.refl _ _).alloc (Nat.le_refl _) _).alloc (by simp) _⟩
  ·have hn:8≤a:=by omega
   clear Nr
   have hok:okR ⟨4,o,a, -1,d,q,p,0,s,n,on,z,t⟩=false:=by simp [okR];omega
   obtain rfl:false=b:=by rw [← HH.out,hok];rfl
   clear hok HH HW hm'
   go_enter Tryz.func56,Tryz.ntmps56
   go_wp2_with fail
   go_ret
   exact ⟨rfl,((Below.refl _ _).alloc (Nat.le_refl _) _).alloc (by simp) _⟩
 ·have hn:a < 0:=by omega
  clear Ro
  have hok:okR ⟨4,o,a, -1,d,q,p,0,s,n,on,z,t⟩=false:=by simp [okR];omega
  obtain rfl:false=b:=by rw [← HH.out,hok];rfl
  clear hok HH HW hm'
  go_enter Tryz.func56,Tryz.ntmps56
  go_wp2_with fail
  go_ret
  exact ⟨rfl,((Below.refl _ _).alloc (Nat.le_refl _) _).alloc (by simp) _⟩
theorem qzo (o a d q p n z t:Int) (on:Bool) {b:Bool} (hf:(⟨4,o,a, -1,d,q,p,0,0,n,on,z,t⟩:Rc).fine) (h:right ⟨4,o,a, -1,d,q,p,0,0,n,on,z,t⟩=b) (w:World):Calls Tryz.prog 56 #[.agg #[.int .i64 4,.int .i64 o,.int .i64 a,.int .i64 (-1),.int .i64 d,.int .i64 q,.int .i64 p,.int .i64 0,.int .i64 0,.int .i64 n,.bool on,.int .i64 z,.int .i64 t]] w fun e w'=>e = .returned (.bool b)∧Below w.heap.size w w':=by
 have HH:Hid ((okR ⟨4,o,a, -1,d,q,p,0,0,n,on,z,t⟩ && decide ((⟨4,o,a, -1,d,q,p,0,0,n,on,z,t⟩:Rc)=want ⟨4,o,a, -1,d,q,p,0,0,n,on,z,t⟩))=b):=Lib.hid ((right_eq _).trans h)
 have HW:Hid (want ⟨4,o,a, -1,d,q,p,0,0,n,on,z,t⟩=⟨4,0,a, -1,0,0,0,0,0,n,false,0,0⟩):=Lib.hid (by simp [want, *])
 have HF:=Lib.hid hf
 have Jh:Hid ((⟨4,0,a, -1,0,0,0,0,0,n,false,0,0⟩:Rc).fine):=Lib.hid (by simp only [Rc.fine] at hf ⊢;simp only [hf,En,and_self])
 have hm' : True:=trivial
 clear h hf
 by_cases ht3:0≤a
 ·by_cases ht2:a < 8
  ·by_cases ht1:0≤n
   ·have hok:okR ⟨4,o,a, -1,d,q,p,0,0,n,on,z,t⟩=true:=by simp [okR];omega
    have hq:decide ((⟨4,o,a, -1,d,q,p,0,0,n,on,z,t⟩:Rc)=⟨4,0,a, -1,0,0,0,0,0,n,false,0,0⟩)=b:=by rw [← HH.out,hok,HW.out];rfl
    have heq:∀ W,(Op.equalIn 10000 46 (.agg #[.int .i64 4,.int .i64 o,.int .i64 a,.int .i64 (-1),.int .i64 d,.int .i64 q,.int .i64 p,.int .i64 0,.int .i64 0,.int .i64 n,.bool on,.int .i64 z,.int .i64 t]) (.agg #[.int .i64 4,.int .i64 0,.int .i64 a,.int .i64 (-1),.int .i64 0,.int .i64 0,.int .i64 0,.int .i64 0,.int .i64 0,.int .i64 n,.bool false,.int .i64 0,.int .i64 0])).run Tryz.prog W = .ok b W:=fun W=>Vr rfl rfl HF.out Jh.out hq W
    clear hok hq HH HW hm'
    go_enter Tryz.func56,Tryz.ntmps56
    go_wp2_with fail
    go_ret
    exact ⟨rfl,((Below.refl _ _).alloc (Nat.le_refl _) _).alloc (by simp) _⟩
   ·have hn:n < 0:=by omega
    clear ht1
    have hok:okR ⟨4,o,a, -1,d,q,p,0,0,n,on,z,t⟩=false:=by simp [okR];omega
    obtain rfl:false=b:=by rw [← HH.out,hok];rfl
    clear hok HH HW hm'
    go_enter Tryz.func56,Tryz.ntmps56
    go_wp2_with fail
    go_ret
    exact ⟨rfl,((Below.refl _ _).alloc (Nat.le_refl _) _).alloc (by simp) _⟩
  ·have hn:8≤a:=by omega
   clear ht2
   have hok:okR ⟨4,o,a, -1,d,q,p,0,0,n,on,z,t⟩=false:=by simp [okR];omega
   obtain rfl:false=b:=by rw [← HH.out,hok];rfl
   clear hok HH HW hm'
   go_enter Tryz.func56,Tryz.ntmps56
   go_wp2_with fail
   go_ret
   exact ⟨rfl,((Below.refl _ _).alloc (Nat.le_refl _) _).alloc (by simp) _⟩
 ·have hn:a < 0:=by omega
  clear ht3
  have hok:okR ⟨4,o,a, -1,d,q,p,0,0,n,on,z,t⟩=false:=by simp [okR];omega
  obtain rfl:false=b:=by rw [← HH.out,hok];rfl
  clear hok HH HW hm'
  go_enter Tryz.func56,Tryz.ntmps56
  go_wp2_with fail
  go_ret
  exact ⟨rfl,((Below.refl _ _).alloc (Nat.le_refl _) _).alloc (by simp) _⟩
end Go.Proofs.YtbbjlfbemibfcaaGreat.rec
end
