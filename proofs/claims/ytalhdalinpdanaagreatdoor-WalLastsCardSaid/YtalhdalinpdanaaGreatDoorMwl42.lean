/-
  WalI8
-/
import Derived.Test.YtalhdalinpdanaaGreatDoorMwl36
import Derived.RangeFuncNested
import Derived.RangeFuncBound
import Derived.RangeFuncCalls
import Derived.RangeFuncLeaves
import Derived.Shelf.Abstract
import Derived.Shelf.RegionOpen
import Derived.WalkKit
import Derived.OwnWalkIn
import Derived.TacticsInMore
import Derived.LoopNIn
import Derived.LoopIn
set_option linter.unusedVariables false
set_option linter.unusedSimpArgs false
namespace Go.Proofs.YtalhdalinpdanaaGreatDoor.wal
set_option maxRecDepth 20000
open Go.RowKit Go.Shelf Go.Proofs.YtalhdalinpdanaaGreatDoor Go.Proofs.YtalhdalinpdanaaGreatDoor.frame Go.Proofs.YtalhdalinpdanaaGreatDoor.disk
attribute [local go_sem] Oper.semAt_some
def aboveL (a:Int) (l:List Int):List Int:=l.reverse.takeWhile fun n=>decide (a < n)
theorem above_split {a:Int} {l:List Int} {k:Nat} (h:∀ n ∈ l.drop k,a < n):aboveL a l=(l.drop k).reverse++(l.take k).reverse.takeWhile fun n=>decide (a < n):=by
 have e:l.reverse=(l.drop k).reverse++(l.take k).reverse:=by rw [← List.reverse_append,List.take_append_drop]
 unfold aboveL
 rw [e,List.takeWhile_append_of_pos (fun x hx=>by simpa using h x (List.mem_reverse.1 hx))]
theorem above_all {a:Int} {l:List Int} {k:Nat} (hk:k≤l.length) (h:∀ n ∈ l.drop k,a < n) (he:∀ j,k=j+1→¬ a < l[j]?.getD 0):(l.drop k).reverse=aboveL a l:=by
 rw [above_split h]
 cases k with
 |zero=>simp
 |succ j =>
  have hj:l[j]?=some l[j]:=List.getElem?_eq_getElem (by omega)
  have:=he j rfl
  rw [hj] at this
  rw [List.take_add_one,hj]
  simp only [Option.toList_some,List.reverse_append,List.reverse_cons,List.reverse_nil,List.nil_append,List.singleton_append]
  rw [List.takeWhile_cons_of_neg (by simpa using this),List.append_nil]
theorem above_pre {a:Int} {l:List Int} {k:Nat} (h:∀ n ∈ l.drop k,a < n):(l.drop k).reverse <+: aboveL a l:=by
 rw [above_split h];exact List.prefix_append _ _
theorem drop_back {l:List Int} {k:Nat} (hk:k < l.length):(l.drop k).reverse=(l.drop (k+1)).reverse++[l[k]?.getD 0]:=by
 rw [List.drop_eq_getElem_cons hk,List.reverse_cons,List.getElem?_eq_getElem hk];rfl
theorem from_all {a:Int} {l:List Int} {k:Nat} (hk:k < l.length) (hlt:a < l[k]?.getD 0) (h:∀ n ∈ l.drop (k+1),a < n):∀ n ∈ l.drop k,a < n:=fun x hx=>by
 rw [List.drop_eq_getElem_cons hk] at hx
 rcases List.mem_cons.1 hx with rfl | hx
 ·rw [List.getElem?_eq_getElem hk] at hlt;exact hlt
 ·exact h x hx
set_option maxRecDepth 1000000 in
set_option maxHeartbeats 4000000 in
theorem from1_in (n:Nat) (hn:1≤n) (l Bl Ba:Nat) (Q:Nat→Prop) (A:Option Addr) (cap b off:Nat) (zs:List Int) (a:Int) (hA:0 < zs.length→A=some ⟨b,off,none⟩∧Q b) (hm:zs.length≤70) (hBl:Q Bl) (hBa:Q Ba) (J Jx:List Int→World→Prop) (hJd:∀ pre W,J pre W→J pre W.drew)
  (hY:∀ pre x W,J pre W→pre.length < zs.length→x ∈ zs→YieldAt Fence.wide (n - 1) Tryz.prog l #[.int .i64 x] W fun e W' =>
   (e = .returned (.bool true)∧J (pre++[x]) W'∧Agree Q W W')∨(e = .returned (.bool false)∧Jx (pre++[x]) W'))
  (W:World) (hcl:W.cell? ⟨Bl,0,none⟩=some (.slice A zs.length cap)) (hca:W.cell? ⟨Ba,0,none⟩=some (.int .i64 a)) (hc:∀ j,j < zs.length→W.cell? ⟨b,off+j,none⟩=some (.int .i64 (zs[j]?.getD 0))) (h0:J [] W) :
  CallsIn Fence.wide n Tryz.prog 126 #[.func (.yield l) #[] #[],.pointer (some ⟨Bl,0,none⟩),.pointer (some ⟨Ba,0,none⟩)] W fun e W'=>(∃ v,e = .returned v) ∧
   ((∃ ys,ys=aboveL a zs∧J ys W')∨(∃ pre,pre <+: aboveL a zs∧Jx pre W')):=by
 refine callsIn_of_wp Tryz.func126 rfl trivial ?_ rfl
 simp only [Tryz.ntmps126,List.size_toArray,List.length_cons,List.length_nil,Nat.reduceAdd,Nat.reduceSub,Array.replicate_succ,Array.replicate_zero,List.push_toArray,List.append_toArray,List.nil_append,List.cons_append]
 have hmx:Tryz.prog.follows .mixedOrders=true:=by kernel_rfl
 gi_wp2
 gi_loopw [4] (fun i wr => ∃ (k:Nat) (z:Int),k≤zs.length∧i = .int .i64 z∧z=(k:Int) - 1∧(∀ x ∈ zs.drop k,a < x)∧J ((zs.drop k).reverse) wr∧Agree Q W wr)
  (fun i _=>(intOf i+1).toNat)
 case atStart=>exact ⟨zs.length,_,Nat.le_refl _,rfl,by simp,by simp,by simpa using h0,agree_refl _ _⟩
 case round =>
  obtain ⟨k,z,hk,rfl,hz,hall,hJs,hnx⟩:=hrel
  have hl1:wr.cell? ⟨Bl,0,none⟩=some (.slice A zs.length cap):=(hnx.alike Bl 0 hBl).trans hcl
  have ha1:wr.cell? ⟨Ba,0,none⟩=some (.int .i64 a):=(hnx.alike Ba 0 hBa).trans hca
  rcases k with _ | k
  ·obtain rfl:z = -1:=by omega
   clear hz
   gi_wp2
   refine wpIn_region_any hmx ?_
   change wpAnyIn _ _ _ _ _ _ _ _ _ (World.drew _)
   refine wpAnyIn_take (i:=0) (v:=(.int .i64 (-1))) rfl rfl (by kernel_rfl) (by kernel_rfl) (by kernel_rfl) (fun _ _ _ h=>h) ⟨Or.inl ⟨by kernel_rfl,?h0⟩,fun _=>rfl⟩ ?_
   case h0=>(intro w;go_simp)
   go_simp
   refine wpAnyIn_take (i:=1) (v:=(.bool false)) rfl rfl (by kernel_rfl) (by kernel_rfl) (by kernel_rfl) (fun _ _ _ h=>h) ⟨Or.inl ⟨by kernel_rfl,?h1⟩,fun _=>rfl⟩ ?_
   case h1=>(intro w;go_simp)
   go_simp
   refine wpAnyIn_take (i:=2) (v:=(.bool false)) rfl rfl (by kernel_rfl) (by kernel_rfl) (by kernel_rfl) (fun _ _ _ h=>h) ⟨Or.inl ⟨by kernel_rfl,?h2⟩,fun _=>rfl⟩ ?_
   case h2=>(intro w;go_simp)
   go_simp
   refine wpAnyIn_take (i:=3) (v:=undef) rfl rfl (by kernel_rfl) (by kernel_rfl) (by kernel_rfl) (fun _ _ _ h=>h) ⟨Or.inr ⟨by kernel_rfl,rfl⟩,fun _=>rfl⟩ ?_
   go_simp
   refine wpAnyIn_take (i:=4) (v:=undef) rfl rfl (by kernel_rfl) (by kernel_rfl) (by kernel_rfl) (fun _ _ _ h=>h) ⟨Or.inr ⟨by kernel_rfl,rfl⟩,fun _=>rfl⟩ ?_
   go_simp
   refine wpAnyIn_take (i:=5) (v:=undef) rfl rfl (by kernel_rfl) (by kernel_rfl) (by kernel_rfl) (fun _ _ _ h=>h) ⟨Or.inr ⟨by kernel_rfl,rfl⟩,fun _=>rfl⟩ ?_
   go_simp
   refine wpAnyIn_take (i:=6) (v:=undef) rfl rfl (by kernel_rfl) (by kernel_rfl) (by kernel_rfl) (fun _ _ _ h=>h) ⟨Or.inr ⟨by kernel_rfl,rfl⟩,fun _=>rfl⟩ ?_
   go_simp
   refine wpAnyIn_take (i:=7) (v:=undef) rfl rfl (by kernel_rfl) (by kernel_rfl) (by kernel_rfl) (fun _ _ _ h=>h) ⟨Or.inr ⟨by kernel_rfl,rfl⟩,fun _=>rfl⟩ ?_
   go_simp
   refine wpAnyIn_take (i:=8) (v:=undef) rfl rfl (by kernel_rfl) (by kernel_rfl) (by kernel_rfl) (fun _ _ _ h=>h) ⟨Or.inr ⟨by kernel_rfl,rfl⟩,fun _=>rfl⟩ ?_
   go_simp
   refine wpAnyIn_take (i:=9) (v:=(.bool false)) rfl rfl (by kernel_rfl) (by kernel_rfl) (by kernel_rfl) (fun _ _ _ h=>h) ⟨Or.inl ⟨by kernel_rfl,?h9⟩,fun _=>rfl⟩ ?_
   case h9=>(intro w;go_simp)
   go_simp
   refine wpAnyIn_done (by kernel_rfl) ?_ _
   gi_wp2
   go_end0
   exact ⟨⟨_,rfl⟩,.inl ⟨_,above_all (Nat.zero_le _) hall (fun j h=>by omega),hJd _ _ hJs⟩⟩
  ·obtain rfl:z=(k:Int):=by omega
   clear hz
   obtain ⟨rfl,hb⟩:=hA (by omega)
   obtain ⟨x,hx⟩:∃ x,Aside (zs[k]?.getD 0=x):=⟨_,rfl⟩
   have hx1:wr.cell? ⟨b,off+k,none⟩=some (.int .i64 x):=(hnx.alike b (off+k) hb).trans ((hc k (by omega)).trans (by rw [hx.out]))
   have hk0:(0:Int)≤(k:Int):=by omega
   have hk1:k < zs.length:=by omega
   by_cases hlt:a < x
   ·obtain ⟨fn,tmps,assign,body,hy,hR⟩:=hY _ x wr.drew (hJd _ _ hJs) (by simp;omega) (by rw [← hx.out,List.getElem?_eq_getElem hk1];exact List.getElem_mem hk1)
    gi_wp2
    refine wpIn_region_any hmx ?_
    change wpAnyIn _ _ _ _ _ _ _ _ _ (World.drew _)
    refine wpAnyIn_take (i:=0) (v:=(.int .i64 ((k:Int)))) rfl rfl (by kernel_rfl) (by kernel_rfl) (by kernel_rfl) (fun _ _ _ h=>h) ⟨Or.inl ⟨by kernel_rfl,?h0⟩,fun _=>rfl⟩ ?_
    case h0=>(intro w;go_simp)
    go_simp
    refine wpAnyIn_take (i:=1) (v:=(.bool true)) rfl rfl (by kernel_rfl) (by kernel_rfl) (by kernel_rfl) (fun _ _ _ h=>h) ⟨Or.inl ⟨by kernel_rfl,?h1⟩,fun _=>rfl⟩ ?_
    case h1=>(intro w;go_simp)
    go_simp
    refine wpAnyIn_take (i:=2) (v:=(.bool true)) rfl rfl (by kernel_rfl) (by kernel_rfl) (by kernel_rfl) (fun _ _ _ h=>h) ⟨Or.inl ⟨by kernel_rfl,?h2⟩,fun _=>rfl⟩ ?_
    case h2=>(intro w;go_simp)
    go_simp
    refine wpAnyIn_take (i:=4) (v:=(.int .i64 ((k:Int)))) rfl rfl (by kernel_rfl) (by kernel_rfl) (by kernel_rfl) (fun _ _ _ h=>h) ⟨Or.inl ⟨by kernel_rfl,?h4⟩,fun _=>rfl⟩ ?_
    case h4=>(intro w;go_simp)
    go_simp
    refine wpAnyIn_ready (rs:=[3,7]) (by kernel_rfl) (by simp) ?_
    refine AllReadyIn.cons rfl (fun K hK=>?_) (AllReadyIn.cons rfl (fun K hK=>?_) (AllReadyIn.nil))
    ·go_simp
     refine hK _ _ ?_
     clear hK K
     refine wpAnyIn_take (i:=5) (v:=(.pointer (some ⟨b,off+k,none⟩))) rfl rfl (by kernel_rfl) (by kernel_rfl) (by kernel_rfl) (fun _ _ _ h=>h) ⟨Or.inl ⟨by kernel_rfl,?h5⟩,fun _=>rfl⟩ ?_
     case h5=>(intro w;go_simp)
     go_simp
     refine wpAnyIn_ready (rs:=[6,7]) (by kernel_rfl) (by simp) ?_
     refine AllReadyIn.cons rfl (fun K hK=>?_) (AllReadyIn.cons rfl (fun K hK=>?_) (AllReadyIn.nil))
     ·go_simp
      refine hK _ _ ?_
      clear hK K
      refine wpAnyIn_ready (rs:=[7]) (by kernel_rfl) (by simp) ?_
      refine AllReadyIn.cons rfl (fun K hK=>?_) (AllReadyIn.nil)
      go_simp
      refine hK _ _ ?_
      clear hK K
      refine wpAnyIn_take (i:=8) (v:=(.bool true)) rfl rfl (by kernel_rfl) (by kernel_rfl) (by kernel_rfl) (fun _ _ _ h=>h) ⟨Or.inl ⟨by kernel_rfl,?h8⟩,fun _=>rfl⟩ ?_
      case h8=>(intro w;go_simp)
      go_simp
      refine wpAnyIn_take (i:=9) (v:=(.bool true)) rfl rfl (by kernel_rfl) (by kernel_rfl) (by kernel_rfl) (fun _ _ _ h=>h) ⟨Or.inl ⟨by kernel_rfl,?h9⟩,fun _=>rfl⟩ ?_
      case h9=>(intro w;go_simp)
      go_simp
      refine wpAnyIn_done (by kernel_rfl) ?_ _
      gi_wp2
      refine hR.mono ?_
      rintro e W3 (⟨rfl,hJ3,hk3⟩ | ⟨rfl,hJx3⟩)
      ·gi_wp2
       go_roundw
       case rel=>exact ⟨k,_,by omega,rfl,rfl,from_all (by omega) (by rw [hx.out];exact hlt) hall,by rw [drop_back (by omega),hx.out];exact hJ3,fun q hq=>(hk3 q hq).trans (hnx q hq)⟩
       case measure=>simp [intOf]
      ·gi_wp2
       refine bodyPost_ret (results_none rfl _ _ _) rfl ?_
       refine ⟨⟨_,rfl⟩,.inr ⟨_,?_,hJx3⟩⟩
       rw [← hx.out,← drop_back (by omega)]
       exact above_pre (from_all (by omega) (by rw [hx.out];exact hlt) hall)
     ·go_simp
      refine hK _ _ ?_
      clear hK K
      refine wpAnyIn_ready (rs:=[6]) (by kernel_rfl) (by simp) ?_
      refine AllReadyIn.cons rfl (fun K hK=>?_) (AllReadyIn.nil)
      go_simp
      refine hK _ _ ?_
      clear hK K
      refine wpAnyIn_take (i:=8) (v:=(.bool true)) rfl rfl (by kernel_rfl) (by kernel_rfl) (by kernel_rfl) (fun _ _ _ h=>h) ⟨Or.inl ⟨by kernel_rfl,?h8⟩,fun _=>rfl⟩ ?_
      case h8=>(intro w;go_simp)
      go_simp
      refine wpAnyIn_take (i:=9) (v:=(.bool true)) rfl rfl (by kernel_rfl) (by kernel_rfl) (by kernel_rfl) (fun _ _ _ h=>h) ⟨Or.inl ⟨by kernel_rfl,?h9⟩,fun _=>rfl⟩ ?_
      case h9=>(intro w;go_simp)
      go_simp
      refine wpAnyIn_done (by kernel_rfl) ?_ _
      gi_wp2
      refine hR.mono ?_
      rintro e W3 (⟨rfl,hJ3,hk3⟩ | ⟨rfl,hJx3⟩)
      ·gi_wp2
       go_roundw
       case rel=>exact ⟨k,_,by omega,rfl,rfl,from_all (by omega) (by rw [hx.out];exact hlt) hall,by rw [drop_back (by omega),hx.out];exact hJ3,fun q hq=>(hk3 q hq).trans (hnx q hq)⟩
       case measure=>simp [intOf]
      ·gi_wp2
       refine bodyPost_ret (results_none rfl _ _ _) rfl ?_
       refine ⟨⟨_,rfl⟩,.inr ⟨_,?_,hJx3⟩⟩
       rw [← hx.out,← drop_back (by omega)]
       exact above_pre (from_all (by omega) (by rw [hx.out];exact hlt) hall)
    ·go_simp
     refine hK _ _ ?_
     clear hK K
     refine wpAnyIn_ready (rs:=[3]) (by kernel_rfl) (by simp) ?_
     refine AllReadyIn.cons rfl (fun K hK=>?_) (AllReadyIn.nil)
     go_simp
     refine hK _ _ ?_
     clear hK K
     refine wpAnyIn_take (i:=5) (v:=(.pointer (some ⟨b,off+k,none⟩))) rfl rfl (by kernel_rfl) (by kernel_rfl) (by kernel_rfl) (fun _ _ _ h=>h) ⟨Or.inl ⟨by kernel_rfl,?h5⟩,fun _=>rfl⟩ ?_
     case h5=>(intro w;go_simp)
     go_simp
     refine wpAnyIn_ready (rs:=[6]) (by kernel_rfl) (by simp) ?_
     refine AllReadyIn.cons rfl (fun K hK=>?_) (AllReadyIn.nil)
     go_simp
     refine hK _ _ ?_
     clear hK K
     refine wpAnyIn_take (i:=8) (v:=(.bool true)) rfl rfl (by kernel_rfl) (by kernel_rfl) (by kernel_rfl) (fun _ _ _ h=>h) ⟨Or.inl ⟨by kernel_rfl,?h8⟩,fun _=>rfl⟩ ?_
     case h8=>(intro w;go_simp)
     go_simp
     refine wpAnyIn_take (i:=9) (v:=(.bool true)) rfl rfl (by kernel_rfl) (by kernel_rfl) (by kernel_rfl) (fun _ _ _ h=>h) ⟨Or.inl ⟨by kernel_rfl,?h9⟩,fun _=>rfl⟩ ?_
     case h9=>(intro w;go_simp)
     go_simp
     refine wpAnyIn_done (by kernel_rfl) ?_ _
     gi_wp2
     refine hR.mono ?_
     rintro e W3 (⟨rfl,hJ3,hk3⟩ | ⟨rfl,hJx3⟩)
     ·gi_wp2
      go_roundw
      case rel=>exact ⟨k,_,by omega,rfl,rfl,from_all (by omega) (by rw [hx.out];exact hlt) hall,by rw [drop_back (by omega),hx.out];exact hJ3,fun q hq=>(hk3 q hq).trans (hnx q hq)⟩
      case measure=>simp [intOf]
     ·gi_wp2
      refine bodyPost_ret (results_none rfl _ _ _) rfl ?_
      refine ⟨⟨_,rfl⟩,.inr ⟨_,?_,hJx3⟩⟩
      rw [← hx.out,← drop_back (by omega)]
      exact above_pre (from_all (by omega) (by rw [hx.out];exact hlt) hall)
   ·gi_wp2
    refine wpIn_region_any hmx ?_
    change wpAnyIn _ _ _ _ _ _ _ _ _ (World.drew _)
    refine wpAnyIn_take (i:=0) (v:=(.int .i64 ((k:Int)))) rfl rfl (by kernel_rfl) (by kernel_rfl) (by kernel_rfl) (fun _ _ _ h=>h) ⟨Or.inl ⟨by kernel_rfl,?h0⟩,fun _=>rfl⟩ ?_
    case h0=>(intro w;go_simp)
    go_simp
    refine wpAnyIn_take (i:=1) (v:=(.bool true)) rfl rfl (by kernel_rfl) (by kernel_rfl) (by kernel_rfl) (fun _ _ _ h=>h) ⟨Or.inl ⟨by kernel_rfl,?h1⟩,fun _=>rfl⟩ ?_
    case h1=>(intro w;go_simp)
    go_simp
    refine wpAnyIn_take (i:=2) (v:=(.bool true)) rfl rfl (by kernel_rfl) (by kernel_rfl) (by kernel_rfl) (fun _ _ _ h=>h) ⟨Or.inl ⟨by kernel_rfl,?h2⟩,fun _=>rfl⟩ ?_
    case h2=>(intro w;go_simp)
    go_simp
    refine wpAnyIn_take (i:=4) (v:=(.int .i64 ((k:Int)))) rfl rfl (by kernel_rfl) (by kernel_rfl) (by kernel_rfl) (fun _ _ _ h=>h) ⟨Or.inl ⟨by kernel_rfl,?h4⟩,fun _=>rfl⟩ ?_
    case h4=>(intro w;go_simp)
    go_simp
    refine wpAnyIn_ready (rs:=[3,7]) (by kernel_rfl) (by simp) ?_
    refine AllReadyIn.cons rfl (fun K hK=>?_) (AllReadyIn.cons rfl (fun K hK=>?_) (AllReadyIn.nil))
    ·go_simp
     refine hK _ _ ?_
     clear hK K
     refine wpAnyIn_take (i:=5) (v:=(.pointer (some ⟨b,off+k,none⟩))) rfl rfl (by kernel_rfl) (by kernel_rfl) (by kernel_rfl) (fun _ _ _ h=>h) ⟨Or.inl ⟨by kernel_rfl,?h5⟩,fun _=>rfl⟩ ?_
     case h5=>(intro w;go_simp)
     go_simp
     refine wpAnyIn_ready (rs:=[6,7]) (by kernel_rfl) (by simp) ?_
     refine AllReadyIn.cons rfl (fun K hK=>?_) (AllReadyIn.cons rfl (fun K hK=>?_) (AllReadyIn.nil))
     ·go_simp
      refine hK _ _ ?_
      clear hK K
      refine wpAnyIn_ready (rs:=[7]) (by kernel_rfl) (by simp) ?_
      refine AllReadyIn.cons rfl (fun K hK=>?_) (AllReadyIn.nil)
      go_simp
      refine hK _ _ ?_
      clear hK K
      refine wpAnyIn_take (i:=8) (v:=(.bool false)) rfl rfl (by kernel_rfl) (by kernel_rfl) (by kernel_rfl) (fun _ _ _ h=>h) ⟨Or.inl ⟨by kernel_rfl,?h8⟩,fun _=>rfl⟩ ?_
      case h8=>(intro w;go_simp)
      go_simp
      refine wpAnyIn_take (i:=9) (v:=(.bool false)) rfl rfl (by kernel_rfl) (by kernel_rfl) (by kernel_rfl) (fun _ _ _ h=>h) ⟨Or.inl ⟨by kernel_rfl,?h9⟩,fun _=>rfl⟩ ?_
      case h9=>(intro w;go_simp)
      go_simp
      refine wpAnyIn_done (by kernel_rfl) ?_ _
      gi_wp2
      go_end0
      exact ⟨⟨_,rfl⟩,.inl ⟨_,above_all hk hall (fun j h=>by
       obtain rfl:j=k:=(by omega)
       rw [hx.out];omega),hJd _ _ hJs⟩⟩
     ·go_simp
      refine hK _ _ ?_
      clear hK K
      refine wpAnyIn_ready (rs:=[6]) (by kernel_rfl) (by simp) ?_
      refine AllReadyIn.cons rfl (fun K hK=>?_) (AllReadyIn.nil)
      go_simp
      refine hK _ _ ?_
      clear hK K
      refine wpAnyIn_take (i:=8) (v:=(.bool false)) rfl rfl (by kernel_rfl) (by kernel_rfl) (by kernel_rfl) (fun _ _ _ h=>h) ⟨Or.inl ⟨by kernel_rfl,?h8⟩,fun _=>rfl⟩ ?_
      case h8=>(intro w;go_simp)
      go_simp
      refine wpAnyIn_take (i:=9) (v:=(.bool false)) rfl rfl (by kernel_rfl) (by kernel_rfl) (by kernel_rfl) (fun _ _ _ h=>h) ⟨Or.inl ⟨by kernel_rfl,?h9⟩,fun _=>rfl⟩ ?_
      case h9=>(intro w;go_simp)
      go_simp
      refine wpAnyIn_done (by kernel_rfl) ?_ _
      gi_wp2
      go_end0
      exact ⟨⟨_,rfl⟩,.inl ⟨_,above_all hk hall (fun j h=>by
       obtain rfl:j=k:=(by omega)
       rw [hx.out];omega),hJd _ _ hJs⟩⟩
    ·go_simp
     refine hK _ _ ?_
     clear hK K
     refine wpAnyIn_ready (rs:=[3]) (by kernel_rfl) (by simp) ?_
     refine AllReadyIn.cons rfl (fun K hK=>?_) (AllReadyIn.nil)
     go_simp
     refine hK _ _ ?_
     clear hK K
     refine wpAnyIn_take (i:=5) (v:=(.pointer (some ⟨b,off+k,none⟩))) rfl rfl (by kernel_rfl) (by kernel_rfl) (by kernel_rfl) (fun _ _ _ h=>h) ⟨Or.inl ⟨by kernel_rfl,?h5⟩,fun _=>rfl⟩ ?_
     case h5=>(intro w;go_simp)
     go_simp
     refine wpAnyIn_ready (rs:=[6]) (by kernel_rfl) (by simp) ?_
     refine AllReadyIn.cons rfl (fun K hK=>?_) (AllReadyIn.nil)
     go_simp
     refine hK _ _ ?_
     clear hK K
     refine wpAnyIn_take (i:=8) (v:=(.bool false)) rfl rfl (by kernel_rfl) (by kernel_rfl) (by kernel_rfl) (fun _ _ _ h=>h) ⟨Or.inl ⟨by kernel_rfl,?h8⟩,fun _=>rfl⟩ ?_
     case h8=>(intro w;go_simp)
     go_simp
     refine wpAnyIn_take (i:=9) (v:=(.bool false)) rfl rfl (by kernel_rfl) (by kernel_rfl) (by kernel_rfl) (fun _ _ _ h=>h) ⟨Or.inl ⟨by kernel_rfl,?h9⟩,fun _=>rfl⟩ ?_
     case h9=>(intro w;go_simp)
     go_simp
     refine wpAnyIn_done (by kernel_rfl) ?_ _
     gi_wp2
     go_end0
     exact ⟨⟨_,rfl⟩,.inl ⟨_,above_all hk hall (fun j h=>by
      obtain rfl:j=k:=(by omega)
      rw [hx.out];omega),hJd _ _ hJs⟩⟩
-- END1
abbrev SI:Type:={ x:Int // inI x }
theorem from_stops (n:Nat) (hn:1≤n) (Bl Ba:Nat) (Q:Nat→Prop) (A:Option Addr) (cap:Nat) (zs:List Int) (a:Int) (hm:zs.length≤70) (hBl:Q Bl) (hBa:Q Ba) (hi:∀ x ∈ zs,inI x) (w:World) (hQ:∀ k,Q k→k < w.heap.size)
  (hcl:w.cell? ⟨Bl,0,none⟩=some (.slice A zs.length cap)) (hca:w.cell? ⟨Ba,0,none⟩=some (.int .i64 a)) (hr:Elems (rdInt .i64) 1 w Q A zs) :
  SeqStopsK Fence.wide n Tryz.prog 126 #[.pointer (some ⟨Bl,0,none⟩),.pointer (some ⟨Ba,0,none⟩)] (fun x:SI=>#[.int .i64 x.1]) (Agree Q) (fun ys=>ys.map (·.1)=aboveL a zs) (fun pre=>pre.map (·.1) <+: aboveL a zs) zs.length w:=fun l J Jx W hW hJ hJx hY h0=>by
 have hWQ:Agree Q w W:=fun k hk=>hW.block k (hQ k hk)
 obtain ⟨b,off,hA,hc⟩:∃ b off,(0 < zs.length→A=some ⟨b,off,none⟩∧Q b)∧∀ j,j < zs.length→w.cell? ⟨b,off+j,none⟩=some (.int .i64 (zs[j]?.getD 0)):=by
  rcases Nat.eq_zero_or_pos zs.length with h | h
  ·exact ⟨0,0,fun h2=>by omega,fun j hj=>by omega⟩
  ·obtain ⟨b,off,e,hb,hc⟩:=hr h
   refine ⟨b,off,fun _=>⟨e,hb⟩,fun j hj=>?_⟩
   obtain ⟨cs,h1,h2,h3,_⟩:=hc j _ (List.getElem?_eq_getElem hj)
   have:=h2 0 _ (by rw [h3];rfl)
   rw [List.getElem?_eq_getElem hj]
   simpa using this
 refine (from1_in n hn l Bl Ba Q A cap b off zs a hA hm hBl hBa (fun p W => ∃ p' : List SI,p'.map (·.1)=p∧J p' W) (fun p W => ∃ p' : List SI,p'.map (·.1)=p∧Jx p' W) (fun p W ⟨p',e,h⟩=>⟨p',e,hJ p' W _ none h ⟨rfl,rfl,rfl,Nat.le_refl _,fun _ _ _=>rfl⟩ (fun r e=>by cases e)⟩)
  (fun p x W hp hl hx=>?_) W ((hWQ.alike Bl 0 hBl).trans hcl) ((hWQ.alike Ba 0 hBa).trans hca) (fun j hj=>(hWQ.alike b (off+j) (hA (by omega)).2).trans (hc j hj)) ⟨[],rfl,h0⟩).mono ?_
 ·obtain ⟨p',rfl,hp⟩:=hp
  obtain ⟨fn,tmps,assign,body,hy,hR⟩:=hY p' ⟨x,hi x hx⟩ W hp (by simpa using hl)
  refine ⟨fn,tmps,assign,body,hy,hR.mono ?_⟩
  rintro e W' (⟨h1,h2,h3⟩ | ⟨h1,h2⟩)
  ·exact .inl ⟨h1,⟨_,by simp,h2⟩,h3⟩
  ·exact .inr ⟨h1,⟨_,by simp,h2⟩⟩
 ·rintro e W' ⟨hv,⟨ys,rfl,p',h1,h2⟩ | ⟨pre,h0,p',h1,h2⟩⟩
  ·exact ⟨hv,.inl ⟨p',h1,h2⟩⟩
  ·exact ⟨hv,.inr ⟨p',by subst h1;exact h0,h2⟩⟩
end Go.Proofs.YtalhdalinpdanaaGreatDoor.wal
