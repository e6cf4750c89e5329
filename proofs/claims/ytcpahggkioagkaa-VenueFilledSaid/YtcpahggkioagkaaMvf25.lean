/-
  RecImpl1, RecImpl2, RecEq13, RecRef0
-/
import Derived.Test.YtcpahggkioagkaaRows
import Derived.Test.YtcpahggkioagkaaMvf24
import Derived.Test.YtcpahggkioagkaaMvf13
import Derived.Test.YtcpahggkioagkaaMvf06
set_option linter.unusedVariables false
set_option linter.unusedSimpArgs false
section
namespace Go.Proofs.Ytcpahggkioagkaa.rec
set_option maxRecDepth 20000
open Go.RowKit Go.Proofs.Ytcpahggkioagkaa
end Go.Proofs.Ytcpahggkioagkaa.rec
end
section
namespace Go.Proofs.Ytcpahggkioagkaa.rec
set_option maxRecDepth 20000
open Go.RowKit Go.Proofs.Ytcpahggkioagkaa
theorem nums_is (k o a y d q p l s n:Int) (on:Bool) (z t:Int) {b0 b1 b2 b3 b4 b5:Int} (h:nums ⟨k,o,a,y,d,q,p,l,s,n,on,z,t⟩=⟨b0,b1,b2,b3,b4,b5⟩) (w:World):Calls Try.prog 60 #[.agg #[.int .i64 k,.int .i64 o,.int .i64 a,.int .i64 y,.int .i64 d,.int .i64 q,.int .i64 p,.int .i64 l,.int .i64 s,.int .i64 n,.bool on,.int .i64 z,.int .i64 t]] w fun e w'=>e = .returned (.agg #[.int .i64 b0,.int .i64 b1,.int .i64 b2,.int .i64 b3,.int .i64 b4,.int .i64 b5])∧Below w.heap.size w w':=by
 have hc:(k=1∧o=b0∧a=b1∧y=b2∧d=b3∧q=b4∧p=b5)∨(k=2∧o=b0∧q=b1∧p=b2∧0=b3∧0=b4∧0=b5)∨(k=3∧o=b0∧0=b1∧0=b2∧0=b3∧0=b4∧0=b5)∨(k=4∧a=b0∧y=b1∧l=b2∧s=b3∧n=b4∧0=b5)
   ∨ (k=5∧on=true∧1=b0∧0=b1∧0=b2∧0=b3∧0=b4∧0=b5)∨(k=5∧on=false∧0=b0∧0=b1∧0=b2∧0=b3∧0=b4∧0=b5)∨(k=6∧z=b0∧t=b1∧o=b2∧q=b3∧p=b4∧0=b5)
   ∨ ((k == 1)=false∧(k == 2)=false∧(k == 3)=false∧(k == 4)=false∧(k == 5)=false∧(k == 6)=false∧0=b0∧0=b1∧0=b2∧0=b3∧0=b4∧0=b5):=by
  unfold nums at h
  simp only at h
  by_cases h1:k=1
  ·rw [if_pos h1] at h;simp only [Ns.mk.injEq] at h;exact .inl ⟨h1,h⟩
  by_cases h2:k=2
  ·rw [if_neg h1,if_pos h2] at h;simp only [Ns.mk.injEq] at h;exact .inr (.inl ⟨h2,h⟩)
  by_cases h3:k=3
  ·rw [if_neg h1,if_neg h2,if_pos h3] at h;simp only [Ns.mk.injEq] at h;exact .inr (.inr (.inl ⟨h3,h⟩))
  by_cases h4:k=4
  ·rw [if_neg h1,if_neg h2,if_neg h3,if_pos h4] at h;simp only [Ns.mk.injEq] at h;exact .inr (.inr (.inr (.inl ⟨h4,h⟩)))
  by_cases h5:k=5
  ·rw [if_neg h1,if_neg h2,if_neg h3,if_neg h4,if_pos h5] at h
   cases on
   ·simp only [nz,Ns.mk.injEq,Bool.false_eq_true,if_false] at h;exact .inr (.inr (.inr (.inr (.inr (.inl ⟨h5,rfl,h⟩)))))
   ·simp only [nz,Ns.mk.injEq,if_true] at h;exact .inr (.inr (.inr (.inr (.inl ⟨h5,rfl,h⟩))))
  by_cases h6:k=6
  ·rw [if_neg h1,if_neg h2,if_neg h3,if_neg h4,if_neg h5,if_pos h6] at h;simp only [Ns.mk.injEq] at h;exact .inr (.inr (.inr (.inr (.inr (.inr (.inl ⟨h6,h⟩))))))
  ·rw [if_neg h1,if_neg h2,if_neg h3,if_neg h4,if_neg h5,if_neg h6] at h;simp only [nz,Ns.mk.injEq] at h
   exact .inr (.inr (.inr (.inr (.inr (.inr (.inr ⟨by simpa using h1,by simpa using h2,by simpa using h3,by simpa using h4,by simpa using h5,by simpa using h6,h⟩))))))
 clear h
 rcases hc with ⟨rfl,rfl,rfl,rfl,rfl,rfl,rfl⟩ | ⟨rfl,rfl,rfl,rfl,rfl,rfl,rfl⟩ | ⟨rfl,rfl,rfl,rfl,rfl,rfl,rfl⟩ | ⟨rfl,rfl,rfl,rfl,rfl,rfl,rfl⟩ | ⟨rfl,rfl,rfl,rfl,rfl,rfl,rfl,rfl⟩ | ⟨rfl,rfl,rfl,rfl,rfl,rfl,rfl,rfl⟩ | ⟨rfl,rfl,rfl,rfl,rfl,rfl,rfl⟩ | ⟨h1,h2,h3,h4,h5,h6,rfl,rfl,rfl,rfl,rfl,rfl⟩
 ·go_enter Try.func60,Try.ntmps60
  go_wp2
  exact bodyPost_ret (v:=.agg #[.int .i64 o,.int .i64 a,.int .i64 y,.int .i64 d,.int .i64 q,.int .i64 p]) (by simp [results,Try.results60,go_sem]) rfl ⟨rfl,((Below.refl _ _).alloc (Nat.le_refl _) _).alloc (by simp) _⟩
 ·go_enter Try.func60,Try.ntmps60
  go_wp2
  exact bodyPost_ret (v:=.agg #[.int .i64 o,.int .i64 q,.int .i64 p,.int .i64 0,.int .i64 0,.int .i64 0]) (by simp [results,Try.results60,go_sem]) rfl ⟨rfl,((Below.refl _ _).alloc (Nat.le_refl _) _).alloc (by simp) _⟩
 ·go_enter Try.func60,Try.ntmps60
  go_wp2
  exact bodyPost_ret (v:=.agg #[.int .i64 o,.int .i64 0,.int .i64 0,.int .i64 0,.int .i64 0,.int .i64 0]) (by simp [results,Try.results60,go_sem]) rfl ⟨rfl,((Below.refl _ _).alloc (Nat.le_refl _) _).alloc (by simp) _⟩
 ·go_enter Try.func60,Try.ntmps60
  go_wp2
  exact bodyPost_ret (v:=.agg #[.int .i64 a,.int .i64 y,.int .i64 l,.int .i64 s,.int .i64 n,.int .i64 0]) (by simp [results,Try.results60,go_sem]) rfl ⟨rfl,((Below.refl _ _).alloc (Nat.le_refl _) _).alloc (by simp) _⟩
 ·go_enter Try.func60,Try.ntmps60
  go_wp2
  exact bodyPost_ret (v:=.agg #[.int .i64 1,.int .i64 0,.int .i64 0,.int .i64 0,.int .i64 0,.int .i64 0]) (by simp [results,Try.results60,go_sem]) rfl ⟨rfl,((Below.refl _ _).alloc (Nat.le_refl _) _).alloc (by simp) _⟩
 ·go_enter Try.func60,Try.ntmps60
  go_wp2
  exact bodyPost_ret (v:=.agg #[.int .i64 0,.int .i64 0,.int .i64 0,.int .i64 0,.int .i64 0,.int .i64 0]) (by simp [results,Try.results60,go_sem]) rfl ⟨rfl,((Below.refl _ _).alloc (Nat.le_refl _) _).alloc (by simp) _⟩
 ·go_enter Try.func60,Try.ntmps60
  go_wp2
  exact bodyPost_ret (v:=.agg #[.int .i64 z,.int .i64 t,.int .i64 o,.int .i64 q,.int .i64 p,.int .i64 0]) (by simp [results,Try.results60,go_sem]) rfl ⟨rfl,((Below.refl _ _).alloc (Nat.le_refl _) _).alloc (by simp) _⟩
 ·go_enter Try.func60,Try.ntmps60
  go_wp2
  exact bodyPost_ret (v:=.agg #[.int .i64 0,.int .i64 0,.int .i64 0,.int .i64 0,.int .i64 0,.int .i64 0]) (by simp [results,Try.results60,go_sem]) rfl ⟨rfl,((Below.refl _ _).alloc (Nat.le_refl _) _).alloc (by simp) _⟩
end Go.Proofs.Ytcpahggkioagkaa.rec
end
section
namespace Go.Proofs.Ytcpahggkioagkaa.rec
set_option maxRecDepth 20000
open Go.RowKit Go.Proofs.Ytcpahggkioagkaa
open Go.Proofs.Ytcpahggkioagkaa.frame (inR)
theorem run_eq13 (f g:Rc) (hf:f.fine) (hg:g.fine) (W:World) :
  (Op.equalIn 10000 58 (.agg (rc f)) (.agg (rc g))).run Try.prog W = .ok (decide (f=g)) W:=by
 have c1:Try.prog.cellsOf 2=1:=by kernel_rfl
 have c3:Try.prog.cellsOf 3=1:=by kernel_rfl
 have cb:Try.prog.cellsOf 4=1:=by kernel_rfl
 have kl:∀ f:Rc,f.fine→Try.prog.keyLits 3 58 (rc f).toList=some [.int .i64 f.k,.int .i64 f.o,.int .i64 f.a,.int .i64 f.y,.int .i64 f.d,.int .i64 f.q,.int .i64 f.p,.int .i64 f.l,.int .i64 f.s,.int .i64 f.n,.bool f.on,.int .i64 f.z,.int .i64 f.t]:=fun f ⟨h0,h1,h2,h3,h4,h5,h6,h7,h8,h9,h10,h11⟩=>by
  rw [kl_struct 2 _ Try.underlying58 (by kernel_rfl) (by kernel_rfl)]
  simp [rc,c1,c3,cb,kl_int 1 _ Try.underlying2,kl_int 1 _ Try.underlying3,kl_bool 1 _ Try.underlying4,wf64 h0,wf64 h1,wf64 h2,wf64 h3,wf64 h4,wf64 h5,wf64 h6,wf64 h7,wf64 h8,wf64 h9,wf64 h10,wf64 h11]
 refine run_eq_by (by kernel_rfl) 3 (by kernel_rfl) (by kernel_rfl) (kl f hf) (kl g hg) _ ?_ W
 obtain ⟨k,o,a,y,d,q,p,l,s,n,on,z,t⟩:=f
 obtain ⟨k',o',a',y',d',q',p',l',s',n',on',z',t'⟩:=g
 simp
theorem eq13_of {k o a y d q p l s n:Int} {on:Bool} {z t:Int} {k' o' a' y' d' q' p' l' s' n' : Int} {on' : Bool} {z' t' : Int} {f g:Rc} {r:Bool} (h:(⟨k,o,a,y,d,q,p,l,s,n,on,z,t⟩:Rc)=f) (h' : (⟨k',o',a',y',d',q',p',l',s',n',on',z',t'⟩:Rc)=g) (hf:f.fine) (hg:g.fine) (hr:decide (f=g)=r) (W:World) :
  (Op.equalIn 10000 58 (.agg #[.int .i64 k,.int .i64 o,.int .i64 a,.int .i64 y,.int .i64 d,.int .i64 q,.int .i64 p,.int .i64 l,.int .i64 s,.int .i64 n,.bool on,.int .i64 z,.int .i64 t]) (.agg #[.int .i64 k',.int .i64 o',.int .i64 a',.int .i64 y',.int .i64 d',.int .i64 q',.int .i64 p',.int .i64 l',.int .i64 s',.int .i64 n',.bool on',.int .i64 z',.int .i64 t'])).run Try.prog W = .ok r W:=by
 subst h h'
 rw [← hr]
 exact run_eq13 ⟨k,o,a,y,d,q,p,l,s,n,on,z,t⟩ ⟨k',o',a',y',d',q',p',l',s',n',on',z',t'⟩ hf hg W
end Go.Proofs.Ytcpahggkioagkaa.rec
end
section
namespace Go.Proofs.Ytcpahggkioagkaa.rec
open Go.RowKit Go.Proofs.Ytcpahggkioagkaa
set_option maxRecDepth 20000
set_option maxHeartbeats 1000000
theorem rid_is (x:Int) {b:Bool} (h:mayOrder x=b) (w:World):Calls Try.prog 50 #[.int .i64 x] w fun e w'=>e = .returned (.bool b)∧w=w':=by
 have hc:∃ r,Hid (mayOrder x=r)∧((x≤0∧r=false)∨(0 < x∧1000000000000 < x∧r=false)∨(0 < x∧x≤1000000000000∧r=true)):=by
  refine ⟨_,Lib.hid rfl,?_⟩
  simp only [mayOrder,decide_eq_false_iff_not,decide_eq_true_eq]
  omega
 obtain ⟨r,HR,hc⟩:=hc
 obtain rfl:r=b:=HR.out.symm.trans h
 clear h
 rcases hc with ⟨h0,rfl⟩ | ⟨h0,h1,rfl⟩ | ⟨h0,h1,rfl⟩
 all_goals
  clear HR
  go_enter Try.func50,Try.ntmps50
  go_wp2
  go_ret
  exact ⟨retB (by first | rfl | (simp;omega)),rfl⟩
end Go.Proofs.Ytcpahggkioagkaa.rec
end
