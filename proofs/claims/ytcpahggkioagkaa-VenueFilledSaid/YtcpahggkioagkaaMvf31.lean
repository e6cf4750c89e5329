/-
  VenA
-/
import Derived.Test.YtcpahggkioagkaaMvf30
set_option linter.unusedVariables false
set_option linter.unusedSimpArgs false
namespace Go.Proofs.Ytcpahggkioagkaa.venue
open Go.RowKit Go.Proofs.Ytcpahggkioagkaa
open Go.Proofs.Ytcpahggkioagkaa.order (Or oz open_)
open Go.Proofs.Ytcpahggkioagkaa.rec (Rc)
open Go.Proofs.Ytcpahggkioagkaa.book (v_oright v_ofnote v_take v_begin v_open v_change l_rec nt_fine)
set_option maxRecDepth 20000
theorem v_mname (m:Mg)  (w:World):Calls Try.prog 33 #[.agg (mc m)] w fun e w'=>e = .returned (.bool (mName m))∧Below w.heap.size w w' :=
 calls_by (fn:=Try.f33) (r:=.bool (mName m)) (t:=.s (.k (.s (.k (.s (.k (.s (.k (.s (.k (.s (.k (.s (.k (.k (.s (.k (.s .z .z)) (.k .z)))) (.k (.s (.k (.s (.k (.s .z .z)) (.k .z))) (.k (.k .z)))))) (.k (.k (.k .z))))) (.k (.k (.k (.k .z)))))) (.k (.k (.k (.k (.k .z))))))) (.k (.k (.k (.k (.k (.k .z)))))))) (.k (.k (.k (.k (.k (.k (.k .z))))))))) (.k (.k (.k (.k (.k (.k (.k (.k .z))))))))) (X :=
 let k0:=(.bool false:Value) = .bool (mName m);let k1:=decide (m.l≤1000000000);let k2:=decide (m.l ≥ 0);let k3:=(.bool true:Value) = .bool (mName m);let k4:=decide (m.i≤1000000000000); ∀ g0:Nat,((decide (m.i ≥ 1))=true→(k4=true→((decide (m.a ≥ 0))=true→((decide (m.a < 8))=true→((decide (m.y ≥ 0))=true→((decide (m.y < 8))=true→((decide (m.d=1))=true→(k2=true→(k1=true→k3)∧(k1=false→k0))∧(k2=false→k0))∧((decide (m.d=1))=false→((decide (m.d=2))=true→(k2=true→(k1=true→k3)∧(k1=false→k0))∧(k2=false→k0))∧((decide (m.d=2))=false→k0)))∧((decide (m.y < 8))=false→k0))∧((decide (m.y ≥ 0))=false→k0))∧((decide (m.a < 8))=false→k0))∧((decide (m.a ≥ 0))=false→k0))∧(k4=false→k0))∧((decide (m.i ≥ 1))=false→k0)) Try.func33 (by kernel_rfl)
 (fun g0=>⟨fun h1=>have h1:¬ m.i < 1:=(by simpa using h1)
⟨fun h2=>have h2:¬ 1000000000000 < m.i:=(by simpa using h2)
⟨fun h3=>have h3:¬ m.a < 0:=(by simpa using h3)
⟨fun h4=>have h4:m.a < 8:=(by simpa using h4)
⟨fun h5=>have h5:¬ m.y < 0:=(by simpa using h5)
⟨fun h6=>have h6:m.y < 8:=(by simpa using h6)
⟨fun h7=>have h7:m.d=1:=(by simpa using h7)
⟨fun h8=>have h8:¬ m.l < 0:=(by simpa using h8)
⟨fun h9=>have h9:¬ 1000000000 < m.l:=(by simpa using h9)
(congrArg Value.bool (decide_eq_true (by omega)).symm),
 fun h9=>have h9:1000000000 < m.l:=(by simpa using h9)
(congrArg Value.bool (decide_eq_false (by omega)).symm)⟩,
 fun h8=>have h8:m.l < 0:=(by simpa using h8)
(congrArg Value.bool (decide_eq_false (by omega)).symm)⟩,
 fun h7=>have h7:¬ m.d=1:=(by simpa using h7)
⟨fun h10=>have h10:m.d=2:=(by simpa using h10)
⟨fun h11=>have h11:¬ m.l < 0:=(by simpa using h11)
⟨fun h12=>have h12:¬ 1000000000 < m.l:=(by simpa using h12)
(congrArg Value.bool (decide_eq_true (by omega)).symm),
 fun h12=>have h12:1000000000 < m.l:=(by simpa using h12)
(congrArg Value.bool (decide_eq_false (by omega)).symm)⟩,
 fun h11=>have h11:m.l < 0:=(by simpa using h11)
(congrArg Value.bool (decide_eq_false (by omega)).symm)⟩,
 fun h10=>have h10:¬ m.d=2:=(by simpa using h10)
(congrArg Value.bool (decide_eq_false (by omega)).symm)⟩⟩,
 fun h6=>have h6:¬ m.y < 8:=(by simpa using h6)
(congrArg Value.bool (decide_eq_false (by omega)).symm)⟩,
 fun h5=>have h5:m.y < 0:=(by simpa using h5)
(congrArg Value.bool (decide_eq_false (by omega)).symm)⟩,
 fun h4=>have h4:¬ m.a < 8:=(by simpa using h4)
(congrArg Value.bool (decide_eq_false (by omega)).symm)⟩,
 fun h3=>have h3:m.a < 0:=(by simpa using h3)
(congrArg Value.bool (decide_eq_false (by omega)).symm)⟩,
 fun h2=>have h2:1000000000000 < m.i:=(by simpa using h2)
(congrArg Value.bool (decide_eq_false (by omega)).symm)⟩,
 fun h1=>have h1:m.i < 1:=(by simpa using h1)
(congrArg Value.bool (decide_eq_false (by omega)).symm)⟩)
theorem v_mask (m:Mg)  (w:World):Calls Try.prog 34 #[.agg (mc m)] w fun e w'=>e = .returned (.bool (mAsk m))∧Below w.heap.size w w' :=
 calls_by (fn:=Try.f34) (r:=.bool (mAsk m)) (t:=.s (.s (.k (.s (.k (.s .z .z)) (.k .z))) (.k (.k .z))) (.s (.s (.k (.s (.k (.s .z .z)) (.k .z))) (.k (.k .z))) (.s (.s (.k (.s (.k (.s .z .z)) (.k .z))) (.k (.k .z))) .z))) (X :=
 let k0:=(.bool false:Value) = .bool (mAsk m);let k1:=(.bool true:Value) = .bool (mAsk m);let k2:=decide (m.q ≥ 1);let k3:=decide (m.p ≥ 1);let k4:=decide (m.v=0); ∀ g0:Nat,((decide (m.k=1))=true→(k2=true→(k3=true→(k4=true→k1)∧(k4=false→k0))∧(k3=false→k0))∧(k2=false→k0))∧((decide (m.k=1))=false→((decide (m.k=2))=true→(k2=true→(k3=true→((decide (m.v ≥ 1))=true→k1)∧((decide (m.v ≥ 1))=false→k0))∧(k3=false→k0))∧(k2=false→k0))∧((decide (m.k=2))=false→((decide (m.k=3))=true→((decide (m.q=0))=true→((decide (m.p=0))=true→(k4=true→k1)∧(k4=false→k0))∧((decide (m.p=0))=false→k0))∧((decide (m.q=0))=false→k0))∧((decide (m.k=3))=false→k0)))) Try.func34 (by kernel_rfl)
 (fun g0=>⟨fun h1=>have h1:m.k=1:=(by simpa using h1)
⟨fun h2=>have h2:¬ m.q < 1:=(by simpa using h2)
⟨fun h3=>have h3:¬ m.p < 1:=(by simpa using h3)
⟨fun h4=>have h4:m.v=0:=(by simpa using h4)
(congrArg Value.bool (decide_eq_true (by omega)).symm),
 fun h4=>have h4:¬ m.v=0:=(by simpa using h4)
(congrArg Value.bool (decide_eq_false (by omega)).symm)⟩,
 fun h3=>have h3:m.p < 1:=(by simpa using h3)
(congrArg Value.bool (decide_eq_false (by omega)).symm)⟩,
 fun h2=>have h2:m.q < 1:=(by simpa using h2)
(congrArg Value.bool (decide_eq_false (by omega)).symm)⟩,
 fun h1=>have h1:¬ m.k=1:=(by simpa using h1)
⟨fun h5=>have h5:m.k=2:=(by simpa using h5)
⟨fun h6=>have h6:¬ m.q < 1:=(by simpa using h6)
⟨fun h7=>have h7:¬ m.p < 1:=(by simpa using h7)
⟨fun h8=>have h8:¬ m.v < 1:=(by simpa using h8)
(congrArg Value.bool (decide_eq_true (by omega)).symm),
 fun h8=>have h8:m.v < 1:=(by simpa using h8)
(congrArg Value.bool (decide_eq_false (by omega)).symm)⟩,
 fun h7=>have h7:m.p < 1:=(by simpa using h7)
(congrArg Value.bool (decide_eq_false (by omega)).symm)⟩,
 fun h6=>have h6:m.q < 1:=(by simpa using h6)
(congrArg Value.bool (decide_eq_false (by omega)).symm)⟩,
 fun h5=>have h5:¬ m.k=2:=(by simpa using h5)
⟨fun h9=>have h9:m.k=3:=(by simpa using h9)
⟨fun h10=>have h10:m.q=0:=(by simpa using h10)
⟨fun h11=>have h11:m.p=0:=(by simpa using h11)
⟨fun h12=>have h12:m.v=0:=(by simpa using h12)
(congrArg Value.bool (decide_eq_true (by omega)).symm),
 fun h12=>have h12:¬ m.v=0:=(by simpa using h12)
(congrArg Value.bool (decide_eq_false (by omega)).symm)⟩,
 fun h11=>have h11:¬ m.p=0:=(by simpa using h11)
(congrArg Value.bool (decide_eq_false (by omega)).symm)⟩,
 fun h10=>have h10:¬ m.q=0:=(by simpa using h10)
(congrArg Value.bool (decide_eq_false (by omega)).symm)⟩,
 fun h9=>have h9:¬ m.k=3:=(by simpa using h9)
(congrArg Value.bool (decide_eq_false (by omega)).symm)⟩⟩⟩)
theorem v_rightMsg (m:Mg)  (w:World):Calls Try.prog 10 #[.agg (mc m)] w fun e w'=>e = .returned (.bool (rightMsg m))∧Below w.heap.size w w' :=
 calls_by (fn:=Try.f10) (r:=.bool (rightMsg m)) (t:=.cs (mName m) (.k (.cs (mAsk m) .z .z)) (.k .z)) (X :=
 let k0:=(.bool false:Value) = .bool (rightMsg m); ∀ g0:Nat,Gives Try.prog w [] 33 #[.agg (mc m)] (.bool (mName m))∧((mName m)=true→Gives Try.prog w [] 34 #[.agg (mc m)] (.bool (mAsk m))∧((mAsk m)=true→((.bool true:Value) = .bool (rightMsg m)))∧((mAsk m)=false→k0))∧((mName m)=false→k0)) Try.func10 (by kernel_rfl)
 (fun g0=>⟨gives (v_mname _),fun h1=>⟨gives (v_mask _),fun h2=>(by unfold rightMsg;rw [h1,h2]<;>rfl),
 fun h2=>(by unfold rightMsg;rw [h1,h2]<;>rfl)⟩,
 fun h1=>(by unfold rightMsg;rw [h1]<;>rfl)⟩)
theorem v_mknow (o:Or)  (w:World):Calls Try.prog 49 #[.agg (order.oc o)] w fun e w'=>e = .returned (.bool (mKnow o))∧Below w.heap.size w w' :=
 calls_by (fn:=Try.f49) (r:=.bool (mKnow o)) (t:=.s (.k (.s (.k (.s .z .z)) (.k .z))) (.k (.k .z))) (X :=
 let k0:=(.bool false:Value) = .bool (mKnow o); ∀ g0:Nat,((!decide (o.h=1))=true→((decide (o.m=0))=true→(o.g=true→k0)∧(o.g=false→((.bool true:Value) = .bool (mKnow o))))∧((decide (o.m=0))=false→k0))∧((!decide (o.h=1))=false→k0)) Try.func49 (by kernel_rfl)
 (fun g0=>⟨fun h1=>have h1:¬ o.h=1:=(by simpa using h1)
⟨fun h2=>have h2:o.m=0:=(by simpa using h2)
⟨fun h3=>(by exact congrArg Value.bool (decide_eq_false (by rintro ⟨h1,h2,h3⟩;first | omega | simp_all)).symm),
 fun h3=>(by exact congrArg Value.bool (decide_eq_true (by refine ⟨by omega,by omega,?_⟩;assumption)).symm)⟩,
 fun h2=>have h2:¬ o.m=0:=(by simpa using h2)
(by exact congrArg Value.bool (decide_eq_false (by rintro ⟨h1,h2,h3⟩;first | omega | simp_all)).symm)⟩,
 fun h1=>have h1:o.h=1:=(by simpa using h1)
(by exact congrArg Value.bool (decide_eq_false (by rintro ⟨h1,h2,h3⟩;first | omega | simp_all)).symm)⟩)
theorem v_minbox (A:Option Addr) (c:Nat) (l:List Mg)  (w:World) (hx:Elems rdMsg 9 w (Lt w.heap.size) A l) (hl:l.length≤9223372036854775807):Calls Try.prog 27 #[.slice A l.length c] w fun e w'=>e = .returned (.bool (inboxOk l))∧Below w.heap.size w w' :=
 calls_by (fn:=Try.f27) (r:=.bool (inboxOk l)) (t:=.s .z (.l (Nat) (fun x=>[(8,.slice A l.length c,none),(9,.int .i64 (l.length:Int),none),(10,.int .i64 (x:Int),none)]) (fun x=>[]) [] [] (fun x=>[]) (fun x=>upInbox l x∧x≤l.length) (fun x=>l.length - x) (0:Nat) (fun y2=>.s (.p (blkA A) (offA A+y2 * 9) (mc (l.getD y2 mz)) (.cs (rightMsg (l.getD y2 mz)) (.e (.int .i64 ((y2+1:Nat):Int)) .z) .z)) .z))) (X :=
 let k0:=(l.length:Int);let k1:=(.bool false:Value) = .bool (inboxOk l);let k2:=([]:List (Option Blk));((decide (k0 > 400))=true→k1)∧((decide (k0 > 400))=false→Brings w [] []∧(upInbox l (0:Nat)∧(0:Nat)≤l.length)∧(([.slice A l.length c,.int .i64 k0,.int .i64 0]:List Value)=[.slice A l.length c,.int .i64 k0,.int .i64 ((0:Nat):Int)]∧k2=[]∧Turns w [] [])∧true=true∧∀ (y2:Nat),let k3:=l.getD y2 mz;let k4:=decide ((y2:Int) < k0);(upInbox l y2∧y2≤l.length)→∀ τ4:Nat→Value,(k4=true→Yields0 Try.prog w [] (Instr.indexAt 22 (.slice A l.length c) (.int .i64 (y2:Int))) (.pointer (some ⟨blkA A,offA A+y2 * 9,none⟩))∧Reads0 w [] (blkA A) (offA A+y2 * 9) (mc k3)∧∀ g1:Nat,Gives Try.prog w [] 10 #[.agg (mc k3)] (.bool (rightMsg k3))∧((rightMsg k3)=true→(.int .i64 (IntKind.i64.wrap ((y2:Int)+1)):Value) = .int .i64 ((y2+1:Nat):Int)∧∃ x' : Nat,(upInbox l x'∧x'≤l.length)∧(l.length - x' < l.length - y2)∧(([.slice A l.length c,.int .i64 k0,.int .i64 ((y2+1:Nat):Int)]:List Value)=[.slice A l.length c,.int .i64 k0,.int .i64 (x' : Int)]∧k2=[]∧Turns w [] [])∧true=true)∧((rightMsg k3)=false→k1))∧(k4=false→((.bool true:Value) = .bool (inboxOk l))))) Try.func27 (by kernel_rfl)
 (⟨fun h1=>have h1:400 < (l.length:Int):=(by simpa using h1)
(by rw [inbox_long (by omega)]),
 fun h1=>have h1:¬ 400 < (l.length:Int):=(by simpa using h1)
⟨(fun w _ _=>news_nil),⟨upInbox_0 l,Nat.zero_le _⟩,⟨rfl,rfl,(turns_sub (List.nil_sublist _))⟩,rfl,fun y2 I3 τ4=>⟨fun h5=>have h5:(y2:Int) < (l.length:Int):=(by simpa using h5)
⟨(low_index Try.underlying22 info_msg msg_cells (Nat.le_refl _) hx rfl (by omega)),(low_reads msg_cells (Nat.le_refl _) hx (at_getD (by omega))),fun g1=>⟨gives (v_rightMsg _),fun h6=>⟨wrap_is (by omega) (by omega) (by omega),⟨((y2+1):Nat),⟨upInbox_next I3.1 h6,by omega⟩,(by omega),⟨rfl,rfl,(turns_sub (List.nil_sublist _))⟩,rfl⟩⟩,
 fun h6=>(by rw [inbox_no (by omega) h6])⟩⟩,
 fun h5=>have h5:¬ (y2:Int) < (l.length:Int):=(by simpa using h5)
(by rw [inbox_yes (by omega) I3.1 (by omega)])⟩⟩⟩)
theorem v_morders (A:Option Addr) (c:Nat) (l:List Or)  (w:World) (hx:Elems rdOrder 12 w (Lt w.heap.size) A l) (hl:l.length≤9223372036854775807):Calls Try.prog 28 #[.slice A l.length c] w fun e w'=>e = .returned (.bool (ordersOk l))∧Below w.heap.size w w' :=
 calls_by (fn:=Try.f28) (r:=.bool (ordersOk l)) (t:=.s .z (.l (Nat) (fun x=>[(0,.slice A l.length c,none),(8,.slice A l.length c,none),(9,.int .i64 (l.length:Int),none),(10,.int .i64 (x:Int),none)]) (fun x=>[]) [] [] (fun x=>[]) (fun x=>upOrders l x∧x≤l.length) (fun x=>l.length - x) (0:Nat) (fun y2=>let k0:=l.getD y2 order.oz;let k1:=(y2 - 1:Nat);let k2:Value:=.int .i64 ((y2+1:Nat):Int); .s (.p (blkA A) (offA A+y2 * 12) (order.oc k0) (.o [] (.cs (order.right k0) (.k (.cs (mKnow k0) (.k (.s (.k (.e (.int .i64 (k1:Int)) (.p (blkA A) (offA A+k1 * 12) (order.oc (l.getD k1 order.oz)) (.s .z (.e k2 .z))))) (.k (.e k2 .z)))) (.k .z))) (.k (.k .z))))) .z))) (X :=
 let k0:=(l.length:Int);let k1:=(.bool false:Value) = .bool (ordersOk l);let k2:=([]:List (Option Blk));((decide (k0 > 400))=true→k1)∧((decide (k0 > 400))=false→Brings w [] []∧(upOrders l (0:Nat)∧(0:Nat)≤l.length)∧(([.slice A l.length c,.slice A l.length c,.int .i64 k0,.int .i64 0]:List Value)=[.slice A l.length c,.slice A l.length c,.int .i64 k0,.int .i64 ((0:Nat):Int)]∧k2=[]∧Turns w [] [])∧true=true∧∀ (y2:Nat),let k3:=l.getD y2 order.oz;let k8:=((y2+1:Nat):Int);let k4:=([.slice A l.length c,.slice A l.length c,.int .i64 k0,.int .i64 k8]:List Value);let k5:=(y2 - 1:Nat);let k6:=(.int .i64 (IntKind.i64.wrap ((y2:Int)+1)):Value);let k7:=decide (k3.i≤(l.getD k5 order.oz).i);let k9:=order.right k3;let k10:=decide ((y2:Int) < k0);(upOrders l y2∧y2≤l.length)→∀ τ4:Nat→Value,(k10=true→Yields0 Try.prog w [] (Instr.indexAt 23 (.slice A l.length c) (.int .i64 (y2:Int))) (.pointer (some ⟨blkA A,offA A+y2 * 12,none⟩))∧Reads0 w [] (blkA A) (offA A+y2 * 12) (order.oc k3)∧∀ g1:Nat,Gives Try.prog w [] 44 #[.agg (order.oc k3)] (.bool k9)∧(k9=true→Gives Try.prog w [] 49 #[.agg (order.oc k3)] (.bool (mKnow k3))∧((mKnow k3)=true→((decide ((y2:Int) > 0))=true→(.int .i64 (IntKind.i64.wrap ((y2:Int) - 1)):Value) = .int .i64 (k5:Int)∧Yields0 Try.prog w [] (Instr.indexAt 23 (.slice A l.length c) (.int .i64 (k5:Int))) (.pointer (some ⟨blkA A,offA A+k5 * 12,none⟩))∧Reads0 w [] (blkA A) (offA A+k5 * 12) (order.oc (l.getD k5 order.oz))∧(k7=true→k1)∧(k7=false→k6 = .int .i64 k8∧∃ x' : Nat,(upOrders l x'∧x'≤l.length)∧(l.length - x' < l.length - y2)∧(k4=[.slice A l.length c,.slice A l.length c,.int .i64 k0,.int .i64 (x' : Int)]∧k2=[]∧Turns w [] [])∧true=true))∧((decide ((y2:Int) > 0))=false→k6 = .int .i64 k8∧∃ x' : Nat,(upOrders l x'∧x'≤l.length)∧(l.length - x' < l.length - y2)∧(k4=[.slice A l.length c,.slice A l.length c,.int .i64 k0,.int .i64 (x' : Int)]∧k2=[]∧Turns w [] [])∧true=true))∧((mKnow k3)=false→k1))∧(k9=false→k1))∧(k10=false→((.bool true:Value) = .bool (ordersOk l))))) Try.func28 (by kernel_rfl)
 (⟨fun h1=>have h1:400 < (l.length:Int):=(by simpa using h1)
(by rw [orders_long (by omega)]),
 fun h1=>have h1:¬ 400 < (l.length:Int):=(by simpa using h1)
⟨(fun w _ _=>news_nil),⟨upOrders_0 l,Nat.zero_le _⟩,⟨rfl,rfl,(turns_sub (List.nil_sublist _))⟩,rfl,fun y2 I3 τ4=>⟨fun h5=>have h5:(y2:Int) < (l.length:Int):=(by simpa using h5)
⟨(low_index Try.underlying23 info_order order_cells (Nat.le_refl _) hx rfl (by omega)),(low_reads order_cells (Nat.le_refl _) hx (at_getD (by omega))),fun g1=>⟨gives (v_oright _),fun h6=>⟨gives (v_mknow _),fun h7=>⟨fun h8=>have h8:0 < (y2:Int):=(by simpa using h8)
⟨wrap_is (by omega) (by omega) (by omega),⟨(low_index Try.underlying23 info_order order_cells (Nat.le_refl _) hx rfl (by omega)),(low_reads order_cells (Nat.le_refl _) hx (at_getD (by omega))),⟨fun h9=>have h9:¬ (l.getD (y2 - 1:Nat) order.oz).i < (l.getD y2 order.oz).i:=(by simpa using h9)
(by rw [orders_no3 (n:=y2) (by omega) (by omega) (by omega)]),
 fun h9=>have h9:(l.getD (y2 - 1:Nat) order.oz).i < (l.getD y2 order.oz).i:=(by simpa using h9)
⟨wrap_is (by omega) (by omega) (by omega),⟨((y2+1):Nat),⟨upOrders_next I3.1 h6 h7 (fun h=>by omega),by omega⟩,(by omega),⟨rfl,rfl,(turns_sub (List.nil_sublist _))⟩,rfl⟩⟩⟩⟩⟩,
 fun h8=>have h8:¬ 0 < (y2:Int):=(by simpa using h8)
⟨wrap_is (by omega) (by omega) (by omega),⟨((y2+1):Nat),⟨upOrders_next I3.1 h6 h7 (fun h=>by omega),by omega⟩,(by omega),⟨rfl,rfl,(turns_sub (List.nil_sublist _))⟩,rfl⟩⟩⟩,
 fun h7=>(by rw [orders_no2 (by omega) h7])⟩,
 fun h6=>(by rw [orders_no1 (by omega) h6])⟩⟩,
 fun h5=>have h5:¬ (y2:Int) < (l.length:Int):=(by simpa using h5)
(by rw [orders_yes (by omega) I3.1 (by omega)])⟩⟩⟩)
theorem v_mnotes (A:Option Addr) (c:Nat) (l:List order.Nt)  (w:World) (hx:Elems rdNt 5 w (Lt w.heap.size) A l) (hl:l.length≤9223372036854775807):Calls Try.prog 29 #[.slice A l.length c] w fun e w'=>e = .returned (.bool (notesOk l))∧Below w.heap.size w w' :=
 calls_by (fn:=Try.f29) (r:=.bool (notesOk l)) (t:=.s .z (.l (Nat) (fun x=>[(8,.slice A l.length c,none),(9,.int .i64 (l.length:Int),none),(10,.int .i64 (x:Int),none)]) (fun x=>[]) [] [] (fun x=>[]) (fun x=>upNotes l x∧x≤l.length) (fun x=>l.length - x) (0:Nat) (fun y2=>let k0:=l.getD y2 nz;let k1:Value:=.int .i64 ((y2+1:Nat):Int); .s (.p (blkA A) (offA A+y2 * 5) (order.nc k0) (.e k1 (.s (.k .z) (.k (.c (.agg (rec.rc k0.rc)) (.cs (order.noteOk k0) (.e k1 .z) .z)))))) .z))) (X :=
 let k0:=(l.length:Int);let k1:=(.bool false:Value) = .bool (notesOk l);let k2:=([]:List (Option Blk));((decide (k0 > 400))=true→k1)∧((decide (k0 > 400))=false→Brings w [] []∧(upNotes l (0:Nat)∧(0:Nat)≤l.length)∧(([.slice A l.length c,.int .i64 k0,.int .i64 0]:List Value)=[.slice A l.length c,.int .i64 k0,.int .i64 ((0:Nat):Int)]∧k2=[]∧Turns w [] [])∧true=true∧∀ (y2:Nat),let k3:=l.getD y2 nz;let k4:=((y2+1:Nat):Int);let k5:=(.int .i64 (IntKind.i64.wrap ((y2:Int)+1)):Value);let k6:=order.noteOk k3;let k7:=decide ((y2:Int) < k0);(upNotes l y2∧y2≤l.length)→∀ τ4:Nat→Value,(k7=true→Yields0 Try.prog w [] (Instr.indexAt 24 (.slice A l.length c) (.int .i64 (y2:Int))) (.pointer (some ⟨blkA A,offA A+y2 * 5,none⟩))∧Reads0 w [] (blkA A) (offA A+y2 * 5) (order.nc k3)∧∀ g1:Nat,k5 = .int .i64 k4∧((!decide (k3.z=k4))=true→k1)∧((!decide (k3.z=k4))=false→Gives Try.prog w [] 46 #[.agg (order.nc k3)] (.agg (rec.rc k3.rc))∧Gives Try.prog w [] 42 #[.agg (rec.rc k3.rc)] (.bool k6)∧(k6=true→k5 = .int .i64 k4∧∃ x' : Nat,(upNotes l x'∧x'≤l.length)∧(l.length - x' < l.length - y2)∧(([.slice A l.length c,.int .i64 k0,.int .i64 k4]:List Value)=[.slice A l.length c,.int .i64 k0,.int .i64 (x' : Int)]∧k2=[]∧Turns w [] [])∧true=true)∧(k6=false→k1)))∧(k7=false→((.bool true:Value) = .bool (notesOk l))))) Try.func29 (by kernel_rfl)
 (⟨fun h1=>have h1:400 < (l.length:Int):=(by simpa using h1)
(by rw [notes_long (by omega)]),
 fun h1=>have h1:¬ 400 < (l.length:Int):=(by simpa using h1)
⟨(fun w _ _=>news_nil),⟨upNotes_0 l,Nat.zero_le _⟩,⟨rfl,rfl,(turns_sub (List.nil_sublist _))⟩,rfl,fun y2 I3 τ4=>⟨fun h5=>have h5:(y2:Int) < (l.length:Int):=(by simpa using h5)
⟨(low_index Try.underlying24 info_nt nt_cells (Nat.le_refl _) hx rfl (by omega)),(low_reads nt_cells (Nat.le_refl _) hx (at_getD (by omega))),fun g1=>⟨wrap_is (by omega) (by omega) (by omega),⟨fun h6=>have h6:¬ (l.getD y2 nz).z=((y2+1:Nat):Int):=(by simpa using h6)
(by rw [notes_no1 (n:=y2) (by omega) (by omega)]),
 fun h6=>have h6:(l.getD y2 nz).z=((y2+1:Nat):Int):=(by simpa using h6)
⟨gives (v_ofnote _),⟨l_rec (nt_fine (fine_nt hx _ (getD_mem (by omega)))),fun h7=>⟨wrap_is (by omega) (by omega) (by omega),⟨((y2+1):Nat),⟨upNotes_next I3.1 (by omega) h7,by omega⟩,(by omega),⟨rfl,rfl,(turns_sub (List.nil_sublist _))⟩,rfl⟩⟩,
 fun h7=>(by rw [notes_no2 (by omega) h7])⟩⟩⟩⟩⟩,
 fun h5=>have h5:¬ (y2:Int) < (l.length:Int):=(by simpa using h5)
(by rw [notes_yes (by omega) I3.1 (by omega)])⟩⟩⟩)
theorem v_vright (v:Vv) (s:Vn)  (w:World) (h:InV w (Lt w.heap.size) v s):Calls Try.prog 8 #[.agg (vc v s)] w fun e w'=>e = .returned (.bool (right s))∧Below w.heap.size w w' :=
 calls_by (fn:=Try.f8) (r:=.bool (right s)) (t:=.cs (inboxOk s.l) (.k (.cs (ordersOk s.os) (.k (.cs (notesOk s.ns) .z .z)) (.k .z))) (.k (.k .z))) (X :=
 let k0:=(.bool false:Value) = .bool (right s);let k1:=ordersOk s.os;let k2:=notesOk s.ns; ∀ g0:Nat,Gives Try.prog w [] 27 #[.slice v.A1 s.l.length v.c1] (.bool (inboxOk s.l))∧((inboxOk s.l)=true→Gives Try.prog w [] 28 #[.slice v.A2 s.os.length v.c2] (.bool k1)∧(k1=true→Gives Try.prog w [] 29 #[.slice v.A3 s.ns.length v.c3] (.bool k2)∧(k2=true→((.bool true:Value) = .bool (right s)))∧(k2=false→k0))∧(k1=false→k0))∧((inboxOk s.l)=false→k0)) Try.func8 (by kernel_rfl)
 (fun g0=>⟨(fun w2 hw _=>v_minbox _ _ _ w2 (h.below hw |>.more (fun _ h=>Nat.lt_of_lt_of_le h hw.size)).l h.len.1),fun h1=>⟨(fun w2 hw _=>v_morders _ _ _ w2 (h.below hw |>.more (fun _ h=>Nat.lt_of_lt_of_le h hw.size)).o h.len.2.1),fun h2=>⟨(fun w2 hw _=>v_mnotes _ _ _ w2 (h.below hw |>.more (fun _ h=>Nat.lt_of_lt_of_le h hw.size)).n h.len.2.2),fun h3=>(by unfold right;rw [h1,h2,h3]<;>rfl),
 fun h3=>(by unfold right;rw [h1,h2,h3]<;>rfl)⟩,
 fun h2=>(by unfold right;rw [h1,h2]<;>rfl)⟩,
 fun h1=>(by unfold right;rw [h1]<;>rfl)⟩)
theorem v_find (v:Vv) (s:Vn) (id:Int)  (w:World) (h:InV w (Lt w.heap.size) v s):Calls Try.prog 12 #[.agg (vc v s),.int .i64 id] w fun e w'=>e = .returned (.int .i64 (findV s.os id))∧Below w.heap.size w w' :=
 have hlen:=h.len
 calls_by (fn:=Try.f12) (r:=.int .i64 (findV s.os id)) (t:=.l (Nat) (fun x=>[(1,.int .i64 id,none),(8,.slice v.A2 s.os.length v.c2,none),(9,.int .i64 (s.os.length:Int),none),(10,.int .i64 (x:Int),none)]) (fun x=>[]) [] [] (fun x=>[]) (fun x=>noneUp s.os id x∧x≤s.os.length) (fun x=>s.os.length - x) (0:Nat) (fun y1=>.s (.p (blkA v.A2) (offA v.A2+y1 * 12) (order.oc (s.os.getD y1 order.oz)) (.s .z (.e (.int .i64 ((y1+1:Nat):Int)) .z))) .z)) (X :=
 let k0:=(s.os.length:Int);let k1:=([]:List (Option Blk)); ∀ g0:Nat,Brings w [] []∧(noneUp s.os id (0:Nat)∧(0:Nat)≤s.os.length)∧(([.int .i64 id,.slice v.A2 s.os.length v.c2,.int .i64 k0,.int .i64 0]:List Value)=[.int .i64 id,.slice v.A2 s.os.length v.c2,.int .i64 k0,.int .i64 ((0:Nat):Int)]∧k1=[]∧Turns w [] [])∧true=true∧∀ (y1:Nat),let k2:=s.os.getD y1 order.oz;let k3:=decide ((y1:Int) < k0);(noneUp s.os id y1∧y1≤s.os.length)→∀ τ3:Nat→Value,(k3=true→Yields0 Try.prog w [] (Instr.indexAt 23 (.slice v.A2 s.os.length v.c2) (.int .i64 (y1:Int))) (.pointer (some ⟨blkA v.A2,offA v.A2+y1 * 12,none⟩))∧Reads0 w [] (blkA v.A2) (offA v.A2+y1 * 12) (order.oc k2)∧∀ g2:Nat,((decide (k2.i=id))=true→((.int .i64 (y1:Int):Value) = .int .i64 (findV s.os id)))∧((decide (k2.i=id))=false→(.int .i64 (IntKind.i64.wrap ((y1:Int)+1)):Value) = .int .i64 ((y1+1:Nat):Int)∧∃ x' : Nat,(noneUp s.os id x'∧x'≤s.os.length)∧(s.os.length - x' < s.os.length - y1)∧(([.int .i64 id,.slice v.A2 s.os.length v.c2,.int .i64 k0,.int .i64 ((y1+1:Nat):Int)]:List Value)=[.int .i64 id,.slice v.A2 s.os.length v.c2,.int .i64 k0,.int .i64 (x' : Int)]∧k1=[]∧Turns w [] [])∧true=true))∧(k3=false→((.int .i64 (-1):Value) = .int .i64 (findV s.os id)))) Try.func12 (by kernel_rfl)
 (fun g0=>⟨(fun w _ _=>news_nil),⟨noneUp_0,Nat.zero_le _⟩,⟨rfl,rfl,(turns_sub (List.nil_sublist _))⟩,rfl,fun y1 I2 τ3=>⟨fun h4=>have h4:(y1:Int) < (s.os.length:Int):=(by simpa using h4)
⟨(low_index Try.underlying23 info_order order_cells (Nat.le_refl _) h.o rfl (by omega)),(low_reads order_cells (Nat.le_refl _) h.o (at_getD (by omega))),fun g2=>⟨fun h5=>have h5:(s.os.getD y1 order.oz).i=id:=(by simpa using h5)
(by rw [find_yes (by omega) I2.1 (by omega)]),
 fun h5=>have h5:¬ (s.os.getD y1 order.oz).i=id:=(by simpa using h5)
⟨wrap_is (by omega) (by omega) (by omega),⟨((y1+1):Nat),⟨noneUp_next I2.1 (by omega),by omega⟩,(by omega),⟨rfl,rfl,(turns_sub (List.nil_sublist _))⟩,rfl⟩⟩⟩⟩,
 fun h4=>have h4:¬ (y1:Int) < (s.os.length:Int):=(by simpa using h4)
(by rw [find_no I2.1 (by omega)])⟩⟩)
theorem v_full (v:Vv) (s:Vn)  (w:World):Calls Try.prog 38 #[.agg (vc v s)] w fun e w'=>e = .returned (.bool (decide (s.ns.length=400)))∧Below w.heap.size w w' :=
 calls_by (fn:=Try.f38) (r:=.bool (decide (s.ns.length=400))) (t:=.s .z .z) (X :=
 let k0:=decide ((s.ns.length:Int)=400);let k1:=decide (s.ns.length=400); ∀ g0:Nat,(k0=true→((.bool true:Value) = .bool k1))∧(k0=false→((.bool false:Value) = .bool k1))) Try.func38 (by kernel_rfl)
 (fun g0=>⟨fun h1=>have h1:(s.ns.length:Int)=400:=(by simpa using h1)
(by simp only [Value.bool.injEq];exact (decide_eq_true (by omega)).symm),
 fun h1=>have h1:¬ (s.ns.length:Int)=400:=(by simpa using h1)
(by simp only [Value.bool.injEq];exact (decide_eq_false (by omega)).symm)⟩)
end Go.Proofs.Ytcpahggkioagkaa.venue
