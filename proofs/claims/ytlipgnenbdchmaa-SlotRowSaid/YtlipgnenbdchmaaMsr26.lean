/-
  DiskImpl6
-/
import Derived.Test.YtlipgnenbdchmaaMsr25
set_option linter.unusedVariables false
set_option linter.unusedSimpArgs false
namespace Go.Proofs.Ytlipgnenbdchmaa.disk
set_option maxRecDepth 20000
open Go.RowKit
def spentD (fuse:Int) (down:Bool):(Int × Bool) × Int:=if fuse=0 then ((0,true),9) else if fuse = -1 then ((-1,down),0) else ((fuse - 1,down),0)
set_option maxHeartbeats 2000000 in
theorem dspent (A:Option Addr) (n c:Nat) (room fuse:Int) (down:Bool) (f2:Int) (dn2:Bool) (x:Int) (w:World) (hfu:inI fuse) (h0 : -1≤fuse) (hx:spentD fuse down=((f2,dn2),x)) :
  Calls Try.prog 54 #[.agg #[.slice A n c,.int .i64 room,.int .i64 fuse,.bool down]] w fun e w'=>e = .returned (.tuple #[.agg #[.slice A n c,.int .i64 room,.int .i64 f2,.bool dn2],.int .i64 x])∧Below w.heap.size w w':=by
 unfold inI at hfu
 have HB:Hid (∀ o1 o2,Below w.heap.size w ((w.alloc o1).alloc o2)):=Lib.hid (fun o1 o2=>((Below.refl _ _).alloc (Nat.le_refl _) o1).alloc (by simp) o2)
 unfold spentD at hx
 rcases (show fuse=0∨fuse = -1∨0 < fuse by omega) with rfl | rfl | h1
 ·simp only [if_true,Prod.mk.injEq] at hx
  obtain ⟨⟨rfl,rfl⟩,rfl⟩:=hx
  go_enter Try.func54,Try.ntmps54
  go_wp2
  refine bodyPost_ret (v:=.tuple #[.agg #[.slice A n c,.int .i64 room,.int .i64 0,.bool true],.int .i64 9]) (by simp [results,Try.results54,go_sem]) rfl ⟨rfl,?_⟩
  repeat (first | exact HB.out _ _ | refine Below.setCell ?_ (by simp) _)
 ·rw [if_neg (by omega),if_pos rfl] at hx
  simp only [Prod.mk.injEq] at hx
  obtain ⟨⟨rfl,rfl⟩,rfl⟩:=hx
  go_enter Try.func54,Try.ntmps54
  go_wp2
  refine bodyPost_ret (v:=.tuple #[.agg #[.slice A n c,.int .i64 room,.int .i64 (-1),.bool down],.int .i64 0]) (by simp [results,Try.results54,go_sem]) rfl ⟨rfl,?_⟩
  repeat (first | exact HB.out _ _ | refine Below.setCell ?_ (by simp) _)
 ·rw [if_neg (by omega),if_neg (by omega)] at hx
  simp only [Prod.mk.injEq] at hx
  obtain ⟨⟨rfl,rfl⟩,rfl⟩:=hx
  have hb1:(fuse == 0)=false:=by simpa using (show fuse≠0 by omega)
  have hb2:(fuse != -1)=true:=by simpa using (show fuse ≠ -1 by omega)
  go_enter Try.func54,Try.ntmps54
  go_wp2
  refine bodyPost_ret (v:=.tuple #[.agg #[.slice A n c,.int .i64 room,.int .i64 (fuse - 1),.bool down],.int .i64 0]) (by simp [results,Try.results54,go_sem]) rfl ⟨rfl,?_⟩
  repeat (first | exact HB.out _ _ | refine Below.setCell ?_ (by simp) _)
def leftN (ks:List Int) (i m:Nat):Nat:=min (max (if ks.length=0 then 0 else ks.getD (i % ks.length) 0) 0).toNat m
set_option maxHeartbeats 2000000 in
theorem dleft (m i:Nat) (Ak:Option Addr) (nk ck:Nat) (ks:List Int) (x:Nat) (w:World) (hk:Ints .i64 w w.heap.size Ak ks) (hkn:ks.length=nk) (hkm:nk≤1000000) (hm:m≤1000000000) (hi:i≤1000000) (hx:leftN ks i m=x) :
  Calls Try.prog 41 #[.int .i64 (m:Nat),.slice Ak nk ck,.int .i64 (i:Nat)] w fun e w'=>e = .returned (.int .i64 (x:Nat))∧w'=w:=by
 have HKN:=Lib.hid hkn
 have HX:=Lib.hid hx
 clear hkn hx
 rcases (show nk=0∨0 < nk by omega) with hk0 | hk0
 ·obtain rfl:0=x:=by rw [← HX.out];unfold leftN;rw [HKN.out,if_pos hk0];simp
  subst hk0
  go_enter Try.func41,Try.ntmps41
  go_wp2
  go_ret
  exact ⟨rfl,rfl⟩
 ·obtain ⟨r,hrr⟩:∃ r,Hid (i % nk=r):=⟨_,Lib.hid rfl⟩
  have hrl:r < nk:=by rw [← hrr.out];exact Nat.mod_lt _ hk0
  have hm' : (i:Int) % (nk:Int)=(r:Int):=by rw [← hrr.out];exact (Int.natCast_emod i nk).symm
  obtain ⟨bk,offk,kv,rfl,hbk,HXK,cellk,hwk⟩:=hk.at_ (j:=r) (by rw [HKN.out];exact hrl)
  have hkv:=inI_of_wf hwk
  unfold inI at hkv
  clear hwk
  have HLE:Hid (x=min (max kv 0).toNat m):=Lib.hid (by
   rw [← HX.out]
   unfold leftN
   rw [if_neg (by rw [HKN.out];omega),HKN.out,hrr.out,List.getD_eq_getElem?_getD,HXK.out]
   simp)
  clear hk HX
  rcases (show kv < 0∨(0≤kv∧(m:Int) < kv)∨(0≤kv∧kv≤(m:Int)) by omega) with hv | ⟨hv,hv2⟩ | ⟨hv,hv2⟩
  ·obtain rfl:0=x:=by rw [HLE.out];omega
   go_enter Try.func41,Try.ntmps41
   go_wp2
   all_goals
    go_ret
    exact ⟨reti (by omega),rfl⟩
  ·obtain rfl:m=x:=by rw [HLE.out];omega
   go_enter Try.func41,Try.ntmps41
   go_wp2
   all_goals
    go_ret
    exact ⟨reti (by omega),rfl⟩
  ·obtain ⟨q,rfl⟩:∃ q:Nat,kv=(q:Int):=⟨kv.toNat,by omega⟩
   obtain rfl:q=x:=by rw [HLE.out];omega
   go_enter Try.func41,Try.ntmps41
   go_wp2
   all_goals
    go_ret
    exact ⟨reti (by omega),rfl⟩
end Go.Proofs.Ytlipgnenbdchmaa.disk
