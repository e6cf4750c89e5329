/-
  VenR1
-/
import Derived.Test.YtcpahggkioagkaaMvr38
import Derived.Test.YtcpahggkioagkaaMvr46
set_option linter.unusedVariables false
set_option linter.unusedSimpArgs false
namespace Go.Proofs.Ytcpahggkioagkaa.venue
open Go.RowKit Go.Proofs.Ytcpahggkioagkaa
open Go.Proofs.Ytcpahggkioagkaa.order (Or oz open_)
open Go.Proofs.Ytcpahggkioagkaa.rec (Rc)
open Go.Proofs.Ytcpahggkioagkaa.book (v_oright v_ofnote v_take v_begin v_open v_change l_rec nt_fine)
set_option maxRecDepth 20000
open Go.Proofs.Ytcpahggkioagkaa.book (w_rec w_oright)
deriving instance DecidableEq for Vn
section
variable {m:Mg}
theorem rm_yes (h1:1≤m.i∧m.i≤1000000000000∧0≤m.a∧m.a < 8∧0≤m.y∧m.y < 8∧(m.d=1∨m.d=2)∧0≤m.l∧m.l≤1000000000) (h2:(m.k=1∧1≤m.q∧1≤m.p∧m.v=0)∨(m.k=2∧1≤m.q∧1≤m.p∧1≤m.v)∨(m.k=3∧m.q=0∧m.p=0∧m.v=0)):(.bool true:Value) = .bool (rightMsg m):=by
 unfold rightMsg mName mAsk;rw [decide_eq_true h1,decide_eq_true h2];rfl
theorem rm_no (h:¬ ((1≤m.i∧m.i≤1000000000000∧0≤m.a∧m.a < 8∧0≤m.y∧m.y < 8∧(m.d=1∨m.d=2)∧0≤m.l∧m.l≤1000000000)∧((m.k=1∧1≤m.q∧1≤m.p∧m.v=0)∨(m.k=2∧1≤m.q∧1≤m.p∧1≤m.v)∨(m.k=3∧m.q=0∧m.p=0∧m.v=0)))):(.bool false:Value) = .bool (rightMsg m):=by
 have e:rightMsg m=false:=by unfold rightMsg mName mAsk;rw [← Bool.decide_and,decide_eq_false h]
 rw [e]
end
section
variable {s:Vn}
theorem right_yes (h1:inboxOk s.l=true) (h2:ordersOk s.os=true) (h3:notesOk s.ns=true):right s=true:=by unfold right;rw [h1,h2,h3];rfl
theorem right_noI (h:inboxOk s.l=false):right s=false:=by unfold right;rw [h];rfl
theorem right_noO (h:ordersOk s.os=false):right s=false:=by unfold right;rw [h];cases inboxOk s.l<;>rfl
theorem right_noN (h:notesOk s.ns=false):right s=false:=by unfold right;rw [h];cases inboxOk s.l<;>cases ordersOk s.os<;>rfl
theorem right_long (h:400 < s.l.length∨400 < s.os.length∨400 < s.ns.length):right s=false:=by
 cases e:right s with
 |false=>rfl
 |true=>have:=right_len e;omega
theorem right_mr {o:Or} (h:order.right o=true) (hm:o.m=0):o.r=0:=by
 have:=order.right_iff.1 h
 unfold order.Rightly at this
 omega
theorem len_no {t:Vn} (h:¬ (s.os.length:Int)=(t.os.length:Int)):¬ s=t:=fun e=>h (by rw [e])
theorem vn_same {t:Vn} (h1:s.l=t.l) (h2:s.os=t.os) (h3:s.ns=t.ns):s=t:=by cases s;cases t;simp only at h1 h2 h3;rw [h1,h2,h3]
end
def shortV (s:Vn):Bool:=decide (s.l.length≤450∧s.os.length≤450∧s.ns.length≤450)
section
variable {α:Type} {z:α} {l l2:List α} {n:Nat}
def upSame (z:α) (l l2:List α) (n:Nat):Prop := ∀ j,j < n→l.getD j z=l2.getD j z
theorem upSame_next (h:upSame z l l2 n) (h1:l.getD n z=l2.getD n z):upSame z l l2 (n+1):=fun j hj=>by
 rcases Nat.lt_or_ge j n with h4 | h4
 ·exact h j h4
 ·obtain rfl:j=n:=by omega
  exact h1
theorem same_yes (hl:l.length=l2.length) (h:upSame z l l2 n) (hn:l.length≤n):l=l2:=by
 apply List.ext_getElem hl
 intro j h1 h2
 have:=h j (by omega)
 simpa [List.getD,List.getElem?_eq_getElem h1,List.getElem?_eq_getElem h2] using this
theorem same_no (h:¬ l.getD n z=l2.getD n z):¬ l=l2:=fun e=>h (by rw [e])
end
set_option maxHeartbeats 4000000 in
theorem x_rightMsg (m:Mg)  (w:World):Calls Try.prog 11 #[.agg (mc m)] w fun e w'=>e = .returned (.bool (rightMsg m))∧Below w.heap.size w w' :=
 calls_by (fn:=Try.f11) (r:=.bool (rightMsg m)) (t:=.s (.k (.s (.k (.s (.k (.s (.k (.s (.k (.s (.k (.s (.k (.k (.s (.k (.s (.s (.k (.k (.s (.k (.s (.k (.s .z .z)) (.k .z))) (.k (.k .z))))) (.s (.k (.k (.s (.k (.s (.k (.s .z .z)) (.k .z))) (.k (.k .z))))) (.k (.k (.s (.k (.s (.k (.s (.k (.s .z .z)) (.k .z))) (.k (.k .z)))) (.k (.k (.k .z)))))))) (.s (.k (.k (.k (.k .z)))) (.s (.k (.k (.k (.k .z)))) (.k (.k (.k (.k (.k .z))))))))) (.k (.s (.k (.k (.k (.k .z)))) (.s (.k (.k (.k (.k .z)))) (.k (.k (.k (.k (.k .z))))))))))) (.k (.s (.k (.s (.k (.s (.s (.k (.k (.s (.k (.s (.k (.s .z .z)) (.k .z))) (.k (.k .z))))) (.s (.k (.k (.s (.k (.s (.k (.s .z .z)) (.k .z))) (.k (.k .z))))) (.k (.k (.s (.k (.s (.k (.s (.k (.s .z .z)) (.k .z))) (.k (.k .z)))) (.k (.k (.k .z)))))))) (.s (.k (.k (.k (.k .z)))) (.s (.k (.k (.k (.k .z)))) (.k (.k (.k (.k (.k .z))))))))) (.k (.s (.k (.k (.k (.k .z)))) (.s (.k (.k (.k (.k .z)))) (.k (.k (.k (.k (.k .z)))))))))) (.k (.k (.s (.k (.k (.k (.k .z)))) (.s (.k (.k (.k (.k .z)))) (.k (.k (.k (.k (.k .z))))))))))))) (.k (.k (.k (.s (.k (.k (.k (.k .z)))) (.s (.k (.k (.k (.k .z)))) (.k (.k (.k (.k (.k .z)))))))))))) (.k (.k (.k (.k (.s (.k (.k (.k (.k .z)))) (.s (.k (.k (.k (.k .z)))) (.k (.k (.k (.k (.k .z))))))))))))) (.k (.k (.k (.k (.k (.s (.k (.k (.k (.k .z)))) (.s (.k (.k (.k (.k .z)))) (.k (.k (.k (.k (.k .z)))))))))))))) (.k (.k (.k (.k (.k (.k (.s (.k (.k (.k (.k .z)))) (.s (.k (.k (.k (.k .z)))) (.k (.k (.k (.k (.k .z))))))))))))))) (.k (.k (.k (.k (.k (.k (.k (.s (.k (.k (.k (.k .z)))) (.s (.k (.k (.k (.k .z)))) (.k (.k (.k (.k (.k .z)))))))))))))))) (.k (.k (.k (.k (.k (.k (.k (.k (.s (.k (.k (.k (.k .z)))) (.s (.k (.k (.k (.k .z)))) (.k (.k (.k (.k (.k .z)))))))))))))))) (X :=
 let k0:=(.bool false:Value) = .bool (rightMsg m);let k1:=decide (m.k=1);let k2:=decide (m.k=2);let k3:=(.bool true:Value) = .bool (rightMsg m);let k4:=decide (m.q > 0);let k5:=decide (m.p > 0);let k6:=decide (m.v=0);let k7:=decide (m.l≤1000000000);let k8:=decide (m.l ≥ 0);let k9:=decide (m.v > 0);let k10:=decide (m.k=3);let k11:=decide (m.q=0);let k12:=decide (m.p=0);let k13:=decide (m.i≤1000000000000); ∀ g0:Nat,((decide (m.i > 0))=true→(k13=true→((decide (m.a ≥ 0))=true→((decide (m.a≤7))=true→((decide (m.y ≥ 0))=true→((decide (m.y≤7))=true→((decide (m.d=1))=true→(k8=true→(k7=true→(k1=true→(k4=true→(k5=true→(k6=true→k3)∧(k6=false→k0))∧(k5=false→k0))∧(k4=false→k0))∧(k1=false→(k2=true→(k4=true→(k5=true→(k9=true→k3)∧(k9=false→k0))∧(k5=false→k0))∧(k4=false→k0))∧(k2=false→(k10=true→(k11=true→(k12=true→(k6=true→k3)∧(k6=false→k0))∧(k12=false→k0))∧(k11=false→k0))∧(k10=false→k0))))∧(k7=false→(k1=true→k0)∧(k1=false→(k2=true→k0)∧(k2=false→k0))))∧(k8=false→(k1=true→k0)∧(k1=false→(k2=true→k0)∧(k2=false→k0))))∧((decide (m.d=1))=false→((decide (m.d=2))=true→(k8=true→(k7=true→(k1=true→(k4=true→(k5=true→(k6=true→k3)∧(k6=false→k0))∧(k5=false→k0))∧(k4=false→k0))∧(k1=false→(k2=true→(k4=true→(k5=true→(k9=true→k3)∧(k9=false→k0))∧(k5=false→k0))∧(k4=false→k0))∧(k2=false→(k10=true→(k11=true→(k12=true→(k6=true→k3)∧(k6=false→k0))∧(k12=false→k0))∧(k11=false→k0))∧(k10=false→k0))))∧(k7=false→(k1=true→k0)∧(k1=false→(k2=true→k0)∧(k2=false→k0))))∧(k8=false→(k1=true→k0)∧(k1=false→(k2=true→k0)∧(k2=false→k0))))∧((decide (m.d=2))=false→(k1=true→k0)∧(k1=false→(k2=true→k0)∧(k2=false→k0)))))∧((decide (m.y≤7))=false→(k1=true→k0)∧(k1=false→(k2=true→k0)∧(k2=false→k0))))∧((decide (m.y ≥ 0))=false→(k1=true→k0)∧(k1=false→(k2=true→k0)∧(k2=false→k0))))∧((decide (m.a≤7))=false→(k1=true→k0)∧(k1=false→(k2=true→k0)∧(k2=false→k0))))∧((decide (m.a ≥ 0))=false→(k1=true→k0)∧(k1=false→(k2=true→k0)∧(k2=false→k0))))∧(k13=false→(k1=true→k0)∧(k1=false→(k2=true→k0)∧(k2=false→k0))))∧((decide (m.i > 0))=false→(k1=true→k0)∧(k1=false→(k2=true→k0)∧(k2=false→k0)))) Try.func11 (by kernel_rfl)
 (fun g0=>⟨fun h1=>have h1:0 < m.i:=(by simpa using h1)
⟨fun h2=>have h2:¬ 1000000000000 < m.i:=(by simpa using h2)
⟨fun h3=>have h3:¬ m.a < 0:=(by simpa using h3)
⟨fun h4=>have h4:¬ 7 < m.a:=(by simpa using h4)
⟨fun h5=>have h5:¬ m.y < 0:=(by simpa using h5)
⟨fun h6=>have h6:¬ 7 < m.y:=(by simpa using h6)
⟨fun h7=>have h7:m.d=1:=(by simpa using h7)
⟨fun h8=>have h8:¬ m.l < 0:=(by simpa using h8)
⟨fun h9=>have h9:¬ 1000000000 < m.l:=(by simpa using h9)
⟨fun h10=>have h10:m.k=1:=(by simpa using h10)
⟨fun h11=>have h11:0 < m.q:=(by simpa using h11)
⟨fun h12=>have h12:0 < m.p:=(by simpa using h12)
⟨fun h13=>have h13:m.v=0:=(by simpa using h13)
(rm_yes (by omega) (by omega)),
 fun h13=>have h13:¬ m.v=0:=(by simpa using h13)
(rm_no (by omega))⟩,
 fun h12=>have h12:¬ 0 < m.p:=(by simpa using h12)
(rm_no (by omega))⟩,
 fun h11=>have h11:¬ 0 < m.q:=(by simpa using h11)
(rm_no (by omega))⟩,
 fun h10=>have h10:¬ m.k=1:=(by simpa using h10)
⟨fun h14=>have h14:m.k=2:=(by simpa using h14)
⟨fun h15=>have h15:0 < m.q:=(by simpa using h15)
⟨fun h16=>have h16:0 < m.p:=(by simpa using h16)
⟨fun h17=>have h17:0 < m.v:=(by simpa using h17)
(rm_yes (by omega) (by omega)),
 fun h17=>have h17:¬ 0 < m.v:=(by simpa using h17)
(rm_no (by omega))⟩,
 fun h16=>have h16:¬ 0 < m.p:=(by simpa using h16)
(rm_no (by omega))⟩,
 fun h15=>have h15:¬ 0 < m.q:=(by simpa using h15)
(rm_no (by omega))⟩,
 fun h14=>have h14:¬ m.k=2:=(by simpa using h14)
⟨fun h18=>have h18:m.k=3:=(by simpa using h18)
⟨fun h19=>have h19:m.q=0:=(by simpa using h19)
⟨fun h20=>have h20:m.p=0:=(by simpa using h20)
⟨fun h21=>have h21:m.v=0:=(by simpa using h21)
(rm_yes (by omega) (by omega)),
 fun h21=>have h21:¬ m.v=0:=(by simpa using h21)
(rm_no (by omega))⟩,
 fun h20=>have h20:¬ m.p=0:=(by simpa using h20)
(rm_no (by omega))⟩,
 fun h19=>have h19:¬ m.q=0:=(by simpa using h19)
(rm_no (by omega))⟩,
 fun h18=>have h18:¬ m.k=3:=(by simpa using h18)
(rm_no (by omega))⟩⟩⟩,
 fun h9=>have h9:1000000000 < m.l:=(by simpa using h9)
⟨fun h22=>have h22:m.k=1:=(by simpa using h22)
(rm_no (by omega)),
 fun h22=>have h22:¬ m.k=1:=(by simpa using h22)
⟨fun h23=>have h23:m.k=2:=(by simpa using h23)
(rm_no (by omega)),
 fun h23=>have h23:¬ m.k=2:=(by simpa using h23)
(rm_no (by omega))⟩⟩⟩,
 fun h8=>have h8:m.l < 0:=(by simpa using h8)
⟨fun h24=>have h24:m.k=1:=(by simpa using h24)
(rm_no (by omega)),
 fun h24=>have h24:¬ m.k=1:=(by simpa using h24)
⟨fun h25=>have h25:m.k=2:=(by simpa using h25)
(rm_no (by omega)),
 fun h25=>have h25:¬ m.k=2:=(by simpa using h25)
(rm_no (by omega))⟩⟩⟩,
 fun h7=>have h7:¬ m.d=1:=(by simpa using h7)
⟨fun h26=>have h26:m.d=2:=(by simpa using h26)
⟨fun h27=>have h27:¬ m.l < 0:=(by simpa using h27)
⟨fun h28=>have h28:¬ 1000000000 < m.l:=(by simpa using h28)
⟨fun h29=>have h29:m.k=1:=(by simpa using h29)
⟨fun h30=>have h30:0 < m.q:=(by simpa using h30)
⟨fun h31=>have h31:0 < m.p:=(by simpa using h31)
⟨fun h32=>have h32:m.v=0:=(by simpa using h32)
(rm_yes (by omega) (by omega)),
 fun h32=>have h32:¬ m.v=0:=(by simpa using h32)
(rm_no (by omega))⟩,
 fun h31=>have h31:¬ 0 < m.p:=(by simpa using h31)
(rm_no (by omega))⟩,
 fun h30=>have h30:¬ 0 < m.q:=(by simpa using h30)
(rm_no (by omega))⟩,
 fun h29=>have h29:¬ m.k=1:=(by simpa using h29)
⟨fun h33=>have h33:m.k=2:=(by simpa using h33)
⟨fun h34=>have h34:0 < m.q:=(by simpa using h34)
⟨fun h35=>have h35:0 < m.p:=(by simpa using h35)
⟨fun h36=>have h36:0 < m.v:=(by simpa using h36)
(rm_yes (by omega) (by omega)),
 fun h36=>have h36:¬ 0 < m.v:=(by simpa using h36)
(rm_no (by omega))⟩,
 fun h35=>have h35:¬ 0 < m.p:=(by simpa using h35)
(rm_no (by omega))⟩,
 fun h34=>have h34:¬ 0 < m.q:=(by simpa using h34)
(rm_no (by omega))⟩,
 fun h33=>have h33:¬ m.k=2:=(by simpa using h33)
⟨fun h37=>have h37:m.k=3:=(by simpa using h37)
⟨fun h38=>have h38:m.q=0:=(by simpa using h38)
⟨fun h39=>have h39:m.p=0:=(by simpa using h39)
⟨fun h40=>have h40:m.v=0:=(by simpa using h40)
(rm_yes (by omega) (by omega)),
 fun h40=>have h40:¬ m.v=0:=(by simpa using h40)
(rm_no (by omega))⟩,
 fun h39=>have h39:¬ m.p=0:=(by simpa using h39)
(rm_no (by omega))⟩,
 fun h38=>have h38:¬ m.q=0:=(by simpa using h38)
(rm_no (by omega))⟩,
 fun h37=>have h37:¬ m.k=3:=(by simpa using h37)
(rm_no (by omega))⟩⟩⟩,
 fun h28=>have h28:1000000000 < m.l:=(by simpa using h28)
⟨fun h41=>have h41:m.k=1:=(by simpa using h41)
(rm_no (by omega)),
 fun h41=>have h41:¬ m.k=1:=(by simpa using h41)
⟨fun h42=>have h42:m.k=2:=(by simpa using h42)
(rm_no (by omega)),
 fun h42=>have h42:¬ m.k=2:=(by simpa using h42)
(rm_no (by omega))⟩⟩⟩,
 fun h27=>have h27:m.l < 0:=(by simpa using h27)
⟨fun h43=>have h43:m.k=1:=(by simpa using h43)
(rm_no (by omega)),
 fun h43=>have h43:¬ m.k=1:=(by simpa using h43)
⟨fun h44=>have h44:m.k=2:=(by simpa using h44)
(rm_no (by omega)),
 fun h44=>have h44:¬ m.k=2:=(by simpa using h44)
(rm_no (by omega))⟩⟩⟩,
 fun h26=>have h26:¬ m.d=2:=(by simpa using h26)
⟨fun h45=>have h45:m.k=1:=(by simpa using h45)
(rm_no (by omega)),
 fun h45=>have h45:¬ m.k=1:=(by simpa using h45)
⟨fun h46=>have h46:m.k=2:=(by simpa using h46)
(rm_no (by omega)),
 fun h46=>have h46:¬ m.k=2:=(by simpa using h46)
(rm_no (by omega))⟩⟩⟩⟩,
 fun h6=>have h6:7 < m.y:=(by simpa using h6)
⟨fun h47=>have h47:m.k=1:=(by simpa using h47)
(rm_no (by omega)),
 fun h47=>have h47:¬ m.k=1:=(by simpa using h47)
⟨fun h48=>have h48:m.k=2:=(by simpa using h48)
(rm_no (by omega)),
 fun h48=>have h48:¬ m.k=2:=(by simpa using h48)
(rm_no (by omega))⟩⟩⟩,
 fun h5=>have h5:m.y < 0:=(by simpa using h5)
⟨fun h49=>have h49:m.k=1:=(by simpa using h49)
(rm_no (by omega)),
 fun h49=>have h49:¬ m.k=1:=(by simpa using h49)
⟨fun h50=>have h50:m.k=2:=(by simpa using h50)
(rm_no (by omega)),
 fun h50=>have h50:¬ m.k=2:=(by simpa using h50)
(rm_no (by omega))⟩⟩⟩,
 fun h4=>have h4:7 < m.a:=(by simpa using h4)
⟨fun h51=>have h51:m.k=1:=(by simpa using h51)
(rm_no (by omega)),
 fun h51=>have h51:¬ m.k=1:=(by simpa using h51)
⟨fun h52=>have h52:m.k=2:=(by simpa using h52)
(rm_no (by omega)),
 fun h52=>have h52:¬ m.k=2:=(by simpa using h52)
(rm_no (by omega))⟩⟩⟩,
 fun h3=>have h3:m.a < 0:=(by simpa using h3)
⟨fun h53=>have h53:m.k=1:=(by simpa using h53)
(rm_no (by omega)),
 fun h53=>have h53:¬ m.k=1:=(by simpa using h53)
⟨fun h54=>have h54:m.k=2:=(by simpa using h54)
(rm_no (by omega)),
 fun h54=>have h54:¬ m.k=2:=(by simpa using h54)
(rm_no (by omega))⟩⟩⟩,
 fun h2=>have h2:1000000000000 < m.i:=(by simpa using h2)
⟨fun h55=>have h55:m.k=1:=(by simpa using h55)
(rm_no (by omega)),
 fun h55=>have h55:¬ m.k=1:=(by simpa using h55)
⟨fun h56=>have h56:m.k=2:=(by simpa using h56)
(rm_no (by omega)),
 fun h56=>have h56:¬ m.k=2:=(by simpa using h56)
(rm_no (by omega))⟩⟩⟩,
 fun h1=>have h1:¬ 0 < m.i:=(by simpa using h1)
⟨fun h57=>have h57:m.k=1:=(by simpa using h57)
(rm_no (by omega)),
 fun h57=>have h57:¬ m.k=1:=(by simpa using h57)
⟨fun h58=>have h58:m.k=2:=(by simpa using h58)
(rm_no (by omega)),
 fun h58=>have h58:¬ m.k=2:=(by simpa using h58)
(rm_no (by omega))⟩⟩⟩)
theorem x_ofnote (n:order.Nt)  (w:World):Calls Try.prog 31 #[.agg (order.nc n)] w fun e w'=>e = .returned (.agg (rec.rc n.rc))∧Below w.heap.size w w' :=
 calls_by (fn:=Try.f31) (r:=.agg (rec.rc n.rc)) (t:=.z) (X :=
∀ g0:Nat,∀ g1:Nat,((.agg #[.int .i64 6,.int .i64 n.o,.int .i64 0,.int .i64 0,.int .i64 0,.int .i64 n.q,.int .i64 n.p,.int .i64 0,.int .i64 0,.int .i64 0,.bool false,.int .i64 n.z,.int .i64 n.t]:Value) = .agg (rec.rc n.rc))) Try.func31 (by kernel_rfl)
 (fun g0=>fun g1=>rfl)
set_option maxHeartbeats 4000000 in
theorem x_right (v:Vv) (s:Vn)  (w:World) (h:InV w (Lt w.heap.size) v s):Calls Try.prog 9 #[.agg (vc v s)] w fun e w'=>e = .returned (.bool (right s))∧Below w.heap.size w w' :=
 have hlen:=h.len
 calls_by (fn:=Try.f9) (r:=.bool (right s)) (t:=.s (.k (.k .z)) (.k (.s (.k .z) (.k (.s .z (.l (Nat) (fun x=>[(1,undef,some (0,0)),(3,.int .i64 (x:Int),none)]) (fun x=>[]) [0] [] (fun x=>[]) (fun x=>upInbox s.l x∧x≤s.l.length) (fun x=>s.l.length - x) (0:Nat) (fun y4=>.s (.p (blkA v.A1) (offA v.A1+y4 * 9) (mc (s.l.getD y4 mz)) (.cs (rightMsg (s.l.getD y4 mz)) (.e (.int .i64 ((y4+1:Nat):Int)) .z) .z)) (.l (Nat) (fun x=>[(1,undef,some (0,0)),(4,.int .i64 (x:Int),none)]) (fun x=>[]) [0] [] (fun x=>[]) (fun x=>upNotes s.ns x∧x≤s.ns.length) (fun x=>s.ns.length - x) (0:Nat) (fun y9=>let k0:=s.ns.getD y9 nz;let k1:Value:=.int .i64 ((y9+1:Nat):Int); .s (.p (blkA v.A3) (offA v.A3+y9 * 5) (order.nc k0) (.e k1 (.s (.k .z) (.k (.p (blkA v.A3) (offA v.A3+y9 * 5) (order.nc k0) (.c (.agg (rec.rc k0.rc)) (.cs (order.noteOk k0) (.e k1 .z) .z))))))) (.l (Nat) (fun x=>[(1,undef,some (0,0)),(5,.int .i64 (x:Int),none)]) (fun x=>[]) [0] [] (fun x=>[]) (fun x=>upOrders s.os x∧x≤s.os.length) (fun x=>s.os.length - x) (0:Nat) (fun y15=>let k2:=(y15 - 1:Nat);let k3:Value:=.int .i64 ((y15+1:Nat):Int);let k4:=s.os.getD y15 order.oz; .s (.p (blkA v.A2) (offA v.A2+y15 * 12) (order.oc k4) (.o [] (.cs (order.right k4) (.k (.s (.k (.k (.k (.k .z)))) (.k (.s (.k (.k (.k .z))) (.k (.s (.k (.k .z)) (.k (.s (.k .z) (.k (.s (.k (.e (.int .i64 (k2:Int)) (.p (blkA v.A2) (offA v.A2+k2 * 12) (order.oc (s.os.getD k2 order.oz)) (.s .z (.e k3 .z))))) (.k (.e k3 .z)))))))))))) (.k (.k (.k (.k (.k .z)))))))) .z))))))))))) (X :=
 let k0:=(.bool false:Value) = .bool (right s);let k1:=(s.ns.length:Int);let k2:=(s.os.length:Int);let k3:=(s.l.length:Int);let k4:=((0:Nat):Int); ∀ g0:Nat,let k5:=([some ⟨g0,0,(vc v s),.own 26⟩]:List (Option Blk));let k6:Option Addr:=some ⟨g0,0,none⟩;let k7:=([.pointer k6,.int .i64 0]:List Value);((decide (k3 > 400))=true→k0)∧((decide (k3 > 400))=false→((decide (k1 > 400))=true→k0)∧((decide (k1 > 400))=false→((decide (k2 > 400))=true→k0)∧((decide (k2 > 400))=false→Brings w [] []∧(upInbox s.l (0:Nat)∧(0:Nat)≤s.l.length)∧(k7=[.pointer k6,.int .i64 k4]∧k5=[some ⟨g0,0,(vc v s),.own 26⟩]∧Turns w [] [])∧true=true∧∀ (y4:Nat),let k8:=s.l.getD y4 mz;let k9:=decide ((y4:Int) < k3);(upInbox s.l y4∧y4≤s.l.length)→∀ τ6:Nat→Value,(k9=true→Yields0 Try.prog w [] (Instr.indexAt 22 (.slice v.A1 s.l.length v.c1) (.int .i64 (y4:Int))) (.pointer (some ⟨blkA v.A1,offA v.A1+y4 * 9,none⟩))∧Reads0 w [] (blkA v.A1) (offA v.A1+y4 * 9) (mc k8)∧Gives Try.prog w [] 11 #[.agg (mc k8)] (.bool (rightMsg k8))∧((rightMsg k8)=true→(.int .i64 (IntKind.i64.wrap ((y4:Int)+1)):Value) = .int .i64 ((y4+1:Nat):Int)∧∃ x' : Nat,(upInbox s.l x'∧x'≤s.l.length)∧(s.l.length - x' < s.l.length - y4)∧(([.pointer k6,.int .i64 ((y4+1:Nat):Int)]:List Value)=[.pointer k6,.int .i64 (x' : Int)]∧k5=[some ⟨g0,0,(vc v s),.own 26⟩]∧Turns w [] [])∧true=true)∧((rightMsg k8)=false→k0))∧(k9=false→Brings w [] []∧(upNotes s.ns (0:Nat)∧(0:Nat)≤s.ns.length)∧(k7=[.pointer k6,.int .i64 k4]∧k5=[some ⟨g0,0,(vc v s),.own 26⟩]∧Turns w [] [])∧true=true∧∀ (y9:Nat),let k10:=s.ns.getD y9 nz;let k11:=((y9+1:Nat):Int);let k12:=Instr.indexAt 24 (.slice v.A3 s.ns.length v.c3) (.int .i64 (y9:Int));let k13:=(.int .i64 (IntKind.i64.wrap ((y9:Int)+1)):Value);let k14:Value:=.pointer (some ⟨blkA v.A3,offA v.A3+y9 * 5,none⟩);let k15:=order.noteOk k10;let k16:=decide ((y9:Int) < k1);(upNotes s.ns y9∧y9≤s.ns.length)→∀ τ11:Nat→Value,(k16=true→Yields0 Try.prog w [] k12 k14∧Reads0 w [] (blkA v.A3) (offA v.A3+y9 * 5) (order.nc k10)∧k13 = .int .i64 k11∧((!decide (k10.z=k11))=true→k0)∧((!decide (k10.z=k11))=false→Yields0 Try.prog w [] k12 k14∧Reads0 w [] (blkA v.A3) (offA v.A3+y9 * 5) (order.nc k10)∧Gives Try.prog w [] 31 #[.agg (order.nc k10)] (.agg (rec.rc k10.rc))∧Gives Try.prog w [] 30 #[.agg (rec.rc k10.rc)] (.bool k15)∧(k15=true→k13 = .int .i64 k11∧∃ x' : Nat,(upNotes s.ns x'∧x'≤s.ns.length)∧(s.ns.length - x' < s.ns.length - y9)∧(([.pointer k6,.int .i64 k11]:List Value)=[.pointer k6,.int .i64 (x' : Int)]∧k5=[some ⟨g0,0,(vc v s),.own 26⟩]∧Turns w [] [])∧true=true)∧(k15=false→k0)))∧(k16=false→Brings w [] []∧(upOrders s.os (0:Nat)∧(0:Nat)≤s.os.length)∧(k7=[.pointer k6,.int .i64 k4]∧k5=[some ⟨g0,0,(vc v s),.own 26⟩]∧Turns w [] [])∧true=true∧∀ (y15:Nat),let k17:=s.os.getD y15 order.oz;let k18:=(y15 - 1:Nat);let k19:=((y15+1:Nat):Int);let k20:=(.int .i64 (IntKind.i64.wrap ((y15:Int)+1)):Value);let k21:=decide (k17.i≤(s.os.getD k18 order.oz).i);let k22:=([.pointer k6,.int .i64 k19]:List Value);let k23:=order.right k17;let k24:=decide ((y15:Int) < k2);let k25:=decide ((y15:Int) > 0);(upOrders s.os y15∧y15≤s.os.length)→∀ τ17:Nat→Value,(k24=true→Yields0 Try.prog w [] (Instr.indexAt 23 (.slice v.A2 s.os.length v.c2) (.int .i64 (y15:Int))) (.pointer (some ⟨blkA v.A2,offA v.A2+y15 * 12,none⟩))∧Reads0 w [] (blkA v.A2) (offA v.A2+y15 * 12) (order.oc k17)∧∀ g2:Nat,Gives Try.prog w [] 32 #[.agg (order.oc k17)] (.bool k23)∧(k23=true→((decide (k17.h=1))=true→k0)∧((decide (k17.h=1))=false→((!decide (k17.m=0))=true→k0)∧((!decide (k17.m=0))=false→((!decide (k17.r=0))=true→k0)∧((!decide (k17.r=0))=false→((k17.g)=true→k0)∧((k17.g)=false→(k25=true→(.int .i64 (IntKind.i64.wrap ((y15:Int) - 1)):Value) = .int .i64 (k18:Int)∧Yields0 Try.prog w [] (Instr.indexAt 23 (.slice v.A2 s.os.length v.c2) (.int .i64 (k18:Int))) (.pointer (some ⟨blkA v.A2,offA v.A2+k18 * 12,none⟩))∧Reads0 w [] (blkA v.A2) (offA v.A2+k18 * 12) (order.oc (s.os.getD k18 order.oz))∧(k21=true→k0)∧(k21=false→k20 = .int .i64 k19∧∃ x' : Nat,(upOrders s.os x'∧x'≤s.os.length)∧(s.os.length - x' < s.os.length - y15)∧(k22=[.pointer k6,.int .i64 (x' : Int)]∧k5=[some ⟨g0,0,(vc v s),.own 26⟩]∧Turns w [] [])∧true=true))∧(k25=false→k20 = .int .i64 k19∧∃ x' : Nat,(upOrders s.os x'∧x'≤s.os.length)∧(s.os.length - x' < s.os.length - y15)∧(k22=[.pointer k6,.int .i64 (x' : Int)]∧k5=[some ⟨g0,0,(vc v s),.own 26⟩]∧Turns w [] [])∧true=true))))))∧(k23=false→k0))∧(k24=false→((.bool true:Value) = .bool (right s))))))))) Try.func9 (by kernel_rfl)
 (fun g0=>⟨fun h1=>have h1:400 < (s.l.length:Int):=(by simpa using h1)
(by rw [right_long (by omega)]),
 fun h1=>have h1:¬ 400 < (s.l.length:Int):=(by simpa using h1)
⟨fun h2=>have h2:400 < (s.ns.length:Int):=(by simpa using h2)
(by rw [right_long (by omega)]),
 fun h2=>have h2:¬ 400 < (s.ns.length:Int):=(by simpa using h2)
⟨fun h3=>have h3:400 < (s.os.length:Int):=(by simpa using h3)
(by rw [right_long (by omega)]),
 fun h3=>have h3:¬ 400 < (s.os.length:Int):=(by simpa using h3)
⟨(fun w _ _=>news_nil),⟨upInbox_0 _,Nat.zero_le _⟩,⟨rfl,rfl,(turns_sub (List.nil_sublist _))⟩,rfl,fun y4 I5 τ6=>⟨fun h7=>have h7:(y4:Int) < (s.l.length:Int):=(by simpa using h7)
⟨(low_index Try.underlying22 info_msg msg_cells (Nat.le_refl _) h.l rfl (by omega)),(low_reads msg_cells (Nat.le_refl _) h.l (at_getD (by omega))),⟨gives (x_rightMsg _),fun h8=>⟨wrap_is (by omega) (by omega) (by omega),⟨((y4+1):Nat),⟨upInbox_next I5.1 h8,by omega⟩,(by omega),⟨rfl,rfl,(turns_sub (List.nil_sublist _))⟩,rfl⟩⟩,
 fun h8=>(by rw [right_noI (inbox_no (n:=y4) (by omega) h8)])⟩⟩,
 fun h7=>have h7:¬ (y4:Int) < (s.l.length:Int):=(by simpa using h7)
⟨(fun w _ _=>news_nil),⟨upNotes_0 _,Nat.zero_le _⟩,⟨rfl,rfl,(turns_sub (List.nil_sublist _))⟩,rfl,fun y9 I10 τ11=>⟨fun h12=>have h12:(y9:Int) < (s.ns.length:Int):=(by simpa using h12)
⟨(low_index Try.underlying24 info_nt nt_cells (Nat.le_refl _) h.n rfl (by omega)),(low_reads nt_cells (Nat.le_refl _) h.n (at_getD (by omega))),⟨wrap_is (by omega) (by omega) (by omega),⟨fun h13=>have h13:¬ (s.ns.getD y9 nz).z=((y9+1:Nat):Int):=(by simpa using h13)
(by rw [right_noN (notes_no1 (n:=y9) (by omega) (by omega))]),
 fun h13=>have h13:(s.ns.getD y9 nz).z=((y9+1:Nat):Int):=(by simpa using h13)
⟨(low_index Try.underlying24 info_nt nt_cells (Nat.le_refl _) h.n rfl (by omega)),(low_reads nt_cells (Nat.le_refl _) h.n (at_getD (by omega))),⟨gives (x_ofnote _),⟨gives (w_rec _ (nt_fine (fine_nt h.n _ (getD_mem (by omega))))),fun h14=>⟨wrap_is (by omega) (by omega) (by omega),⟨((y9+1):Nat),⟨upNotes_next I10.1 (by omega) h14,by omega⟩,(by omega),⟨rfl,rfl,(turns_sub (List.nil_sublist _))⟩,rfl⟩⟩,
 fun h14=>(by rw [right_noN (notes_no2 (n:=y9) (by omega) h14)])⟩⟩⟩⟩⟩⟩,
 fun h12=>have h12:¬ (y9:Int) < (s.ns.length:Int):=(by simpa using h12)
⟨(fun w _ _=>news_nil),⟨upOrders_0 _,Nat.zero_le _⟩,⟨rfl,rfl,(turns_sub (List.nil_sublist _))⟩,rfl,fun y15 I16 τ17=>⟨fun h18=>have h18:(y15:Int) < (s.os.length:Int):=(by simpa using h18)
⟨(low_index Try.underlying23 info_order order_cells (Nat.le_refl _) h.o rfl (by omega)),(low_reads order_cells (Nat.le_refl _) h.o (at_getD (by omega))),fun g2=>⟨gives (w_oright _ (fine_or h.o _ (getD_mem (by omega)))),fun h19=>⟨fun h20=>have h20:(s.os.getD y15 order.oz).h=1:=(by simpa using h20)
(by rw [right_noO (orders_no2 (n:=y15) (by omega) (decide_eq_false (fun e=>by omega)))]),
 fun h20=>have h20:¬ (s.os.getD y15 order.oz).h=1:=(by simpa using h20)
⟨fun h21=>have h21:¬ (s.os.getD y15 order.oz).m=0:=(by simpa using h21)
(by rw [right_noO (orders_no2 (n:=y15) (by omega) (decide_eq_false (fun e=>by omega)))]),
 fun h21=>have h21:(s.os.getD y15 order.oz).m=0:=(by simpa using h21)
⟨fun h22=>have h22:¬ (s.os.getD y15 order.oz).r=0:=(by simpa using h22)
(absurd (right_mr h19 (by omega)) (by omega)),
 fun h22=>have h22:(s.os.getD y15 order.oz).r=0:=(by simpa using h22)
⟨fun h23=>(by rw [right_noO (orders_no2 (n:=y15) (by omega) (decide_eq_false (fun e=>by rw [h23] at e;cases e.2.2)))]),
 fun h23=>⟨fun h24=>have h24:0 < (y15:Int):=(by simpa using h24)
⟨wrap_is (by omega) (by omega) (by omega),⟨(low_index Try.underlying23 info_order order_cells (Nat.le_refl _) h.o rfl (by omega)),(low_reads order_cells (Nat.le_refl _) h.o (at_getD (by omega))),⟨fun h25=>have h25:¬ (s.os.getD (y15 - 1:Nat) order.oz).i < (s.os.getD y15 order.oz).i:=(by simpa using h25)
(by rw [right_noO (orders_no3 (n:=y15) (by omega) (by omega) (by omega))]),
 fun h25=>have h25:(s.os.getD (y15 - 1:Nat) order.oz).i < (s.os.getD y15 order.oz).i:=(by simpa using h25)
⟨wrap_is (by omega) (by omega) (by omega),⟨((y15+1):Nat),⟨upOrders_next I16.1 h19 (decide_eq_true ⟨by omega,by omega,h23⟩) (fun h=>by omega),by omega⟩,(by omega),⟨rfl,rfl,(turns_sub (List.nil_sublist _))⟩,rfl⟩⟩⟩⟩⟩,
 fun h24=>have h24:¬ 0 < (y15:Int):=(by simpa using h24)
⟨wrap_is (by omega) (by omega) (by omega),⟨((y15+1):Nat),⟨upOrders_next I16.1 h19 (decide_eq_true ⟨by omega,by omega,h23⟩) (fun h=>by omega),by omega⟩,(by omega),⟨rfl,rfl,(turns_sub (List.nil_sublist _))⟩,rfl⟩⟩⟩⟩⟩⟩⟩,
 fun h19=>(by rw [right_noO (orders_no1 (n:=y15) (by omega) h19)])⟩⟩,
 fun h18=>have h18:¬ (y15:Int) < (s.os.length:Int):=(by simpa using h18)
(by rw [right_yes (inbox_yes (by omega) I5.1 (by omega)) (orders_yes (by omega) I16.1 (by omega)) (notes_yes (by omega) I10.1 (by omega))])⟩⟩⟩⟩⟩⟩⟩⟩⟩)
theorem x_find (v:Vv) (s:Vn) (id:Int)  (w:World) (h:InV w (Lt w.heap.size) v s):Calls Try.prog 13 #[.agg (vc v s),.int .i64 id] w fun e w'=>e = .returned (.int .i64 (findV s.os id))∧Below w.heap.size w w' :=
 have hlen:=h.len
 calls_by (fn:=Try.f13) (r:=.int .i64 (findV s.os id)) (t:=.l (Nat) (fun x=>[(1,.int .i64 id,none),(2,undef,some (0,0)),(5,.int .i64 (x:Int),none)]) (fun x=>[]) [0] [] (fun x=>[]) (fun x=>noneUp s.os id x∧x≤s.os.length) (fun x=>s.os.length - x) (0:Nat) (fun y1=>.s (.p (blkA v.A2) (offA v.A2+y1 * 12) (order.oc (s.os.getD y1 order.oz)) (.s .z (.e (.int .i64 ((y1+1:Nat):Int)) .z))) .z)) (X :=
∀ g0:Nat,let k0:=([some ⟨g0,0,(vc v s),.own 26⟩]:List (Option Blk));let k1:Option Addr:=some ⟨g0,0,none⟩;Brings w [] []∧(noneUp s.os id (0:Nat)∧(0:Nat)≤s.os.length)∧(([.int .i64 id,.pointer k1,.int .i64 0]:List Value)=[.int .i64 id,.pointer k1,.int .i64 ((0:Nat):Int)]∧k0=[some ⟨g0,0,(vc v s),.own 26⟩]∧Turns w [] [])∧true=true∧∀ (y1:Nat),let k2:=s.os.getD y1 order.oz;let k3:=decide ((y1:Int) < (s.os.length:Int));(noneUp s.os id y1∧y1≤s.os.length)→∀ τ3:Nat→Value,(k3=true→Yields0 Try.prog w [] (Instr.indexAt 23 (.slice v.A2 s.os.length v.c2) (.int .i64 (y1:Int))) (.pointer (some ⟨blkA v.A2,offA v.A2+y1 * 12,none⟩))∧Reads0 w [] (blkA v.A2) (offA v.A2+y1 * 12) (order.oc k2)∧((decide (k2.i=id))=true→((.int .i64 (y1:Int):Value) = .int .i64 (findV s.os id)))∧((decide (k2.i=id))=false→(.int .i64 (IntKind.i64.wrap ((y1:Int)+1)):Value) = .int .i64 ((y1+1:Nat):Int)∧∃ x' : Nat,(noneUp s.os id x'∧x'≤s.os.length)∧(s.os.length - x' < s.os.length - y1)∧(([.int .i64 id,.pointer k1,.int .i64 ((y1+1:Nat):Int)]:List Value)=[.int .i64 id,.pointer k1,.int .i64 (x' : Int)]∧k0=[some ⟨g0,0,(vc v s),.own 26⟩]∧Turns w [] [])∧true=true))∧(k3=false→((.int .i64 (-1):Value) = .int .i64 (findV s.os id)))) Try.func13 (by kernel_rfl)
 (fun g0=>⟨(fun w _ _=>news_nil),⟨noneUp_0,Nat.zero_le _⟩,⟨rfl,rfl,(turns_sub (List.nil_sublist _))⟩,rfl,fun y1 I2 τ3=>⟨fun h4=>have h4:(y1:Int) < (s.os.length:Int):=(by simpa using h4)
⟨(low_index Try.underlying23 info_order order_cells (Nat.le_refl _) h.o rfl (by omega)),(low_reads order_cells (Nat.le_refl _) h.o (at_getD (by omega))),⟨fun h5=>have h5:(s.os.getD y1 order.oz).i=id:=(by simpa using h5)
(by rw [find_yes (by omega) I2.1 (by omega)]),
 fun h5=>have h5:¬ (s.os.getD y1 order.oz).i=id:=(by simpa using h5)
⟨wrap_is (by omega) (by omega) (by omega),⟨((y1+1):Nat),⟨noneUp_next I2.1 (by omega),by omega⟩,(by omega),⟨rfl,rfl,(turns_sub (List.nil_sublist _))⟩,rfl⟩⟩⟩⟩,
 fun h4=>have h4:¬ (y1:Int) < (s.os.length:Int):=(by simpa using h4)
(by rw [find_no I2.1 (by omega)])⟩⟩)
theorem x_sameM (A A2:Option Addr) (c c2:Nat) (l l2:List Mg)  (w:World) (hx:Elems rdMsg 9 w (Lt w.heap.size) A l) (hx2:Elems rdMsg 9 w (Lt w.heap.size) A2 l2) (hl:l.length≤1000):Calls Try.prog 36 #[.slice A l.length c,.slice A2 l2.length c2] w fun e w'=>e = .returned (.bool (decide (l=l2)))∧Below w.heap.size w w' :=
 calls_by (fn:=Try.f36) (r:=.bool (decide (l=l2))) (t:=.s .z (.l (Nat) (fun x=>[(0,.slice A l.length c,none),(1,.slice A2 l2.length c2,none),(5,.int .i64 (x:Int),none)]) (fun x=>[]) [] [] (fun x=>[]) (fun x=>upSame mz l l2 x∧x≤l.length) (fun x=>l.length - x) (0:Nat) (fun y2=>.s (.o [] (.p (blkA A) (offA A+y2 * 9) (mc (l.getD y2 mz)) (.p (blkA A2) (offA A2+y2 * 9) (mc (l2.getD y2 mz)) (.xs (!decide ((l.getD y2 mz)=(l2.getD y2 mz))) .z (.e (.int .i64 ((y2+1:Nat):Int)) .z))))) .z))) (X :=
 let k0:=(.bool false:Value) = .bool (decide (l=l2));let k2:=(l.length:Int);let k1 := !decide (k2=(l2.length:Int));let k3:=([]:List (Option Blk));(k1=true→k0)∧(k1=false→Brings w [] []∧(upSame mz l l2 (0:Nat)∧(0:Nat)≤l.length)∧(([.slice A l.length c,.slice A2 l2.length c2,.int .i64 0]:List Value)=[.slice A l.length c,.slice A2 l2.length c2,.int .i64 ((0:Nat):Int)]∧k3=[]∧Turns w [] [])∧true=true∧∀ (y2:Nat),let k6:=l.getD y2 mz;let k5:=l2.getD y2 mz;let k4 := !decide (k6=k5);let k7:=decide ((y2:Int) < k2);(upSame mz l l2 y2∧y2≤l.length)→∀ τ4:Nat→Value,(k7=true→Yields0 Try.prog w [] (Instr.indexAt 22 (.slice A l.length c) (.int .i64 (y2:Int))) (.pointer (some ⟨blkA A,offA A+y2 * 9,none⟩))∧Reads0 w [] (blkA A) (offA A+y2 * 9) (mc k6)∧Yields0 Try.prog w [] (Instr.indexAt 22 (.slice A2 l2.length c2) (.int .i64 (y2:Int))) (.pointer (some ⟨blkA A2,offA A2+y2 * 9,none⟩))∧Reads0 w [] (blkA A2) (offA A2+y2 * 9) (mc k5)∧Yields0 Try.prog w [] (do eqGuard BinOp.neq 28 (.tmp 20) (.tmp 24) (.agg (mc k6)) (.agg (mc k5));Go.binOp BinOp.neq 28 (.agg (mc k6)) (.agg (mc k5))) (.bool k4)∧(k4=true→k0)∧(k4=false→(.int .i64 (IntKind.i64.wrap ((y2:Int)+1)):Value) = .int .i64 ((y2+1:Nat):Int)∧∃ x' : Nat,(upSame mz l l2 x'∧x'≤l.length)∧(l.length - x' < l.length - y2)∧(([.slice A l.length c,.slice A2 l2.length c2,.int .i64 ((y2+1:Nat):Int)]:List Value)=[.slice A l.length c,.slice A2 l2.length c2,.int .i64 (x' : Int)]∧k3=[]∧Turns w [] [])∧true=true))∧(k7=false→((.bool true:Value) = .bool (decide (l=l2)))))) Try.func36 (by kernel_rfl)
 (⟨fun h1=>have h1:¬ (l.length:Int)=(l2.length:Int):=(by simpa using h1)
(congrArg Value.bool (decide_eq_false (fun e=>by have:=congrArg List.length e;omega)).symm),
 fun h1=>have h1:(l.length:Int)=(l2.length:Int):=(by simpa using h1)
⟨(fun w _ _=>news_nil),⟨fun j h=>absurd h (by omega),Nat.zero_le _⟩,⟨rfl,rfl,(turns_sub (List.nil_sublist _))⟩,rfl,fun y2 I3 τ4=>⟨fun h5=>have h5:(y2:Int) < (l.length:Int):=(by simpa using h5)
⟨(low_index Try.underlying22 info_msg msg_cells (Nat.le_refl _) hx rfl (by omega)),(low_reads msg_cells (Nat.le_refl _) hx (at_getD (by omega))),⟨(low_index Try.underlying22 info_msg msg_cells (Nat.le_refl _) hx2 rfl (by omega)),(low_reads msg_cells (Nat.le_refl _) hx2 (at_getD (by omega))),⟨neq_agg (by kernel_rfl) (run_eq9 (l.getD y2 mz) (l2.getD y2 mz) (fine_msg hx _ (getD_mem (by omega))) (fine_msg hx2 _ (getD_mem (by omega)))) _ _,fun h6=>(congrArg Value.bool (decide_eq_false (same_no (z:=mz) (n:=y2) (of_decide_eq_false (by simpa using h6)))).symm),
 fun h6=>⟨wrap_is (by omega) (by omega) (by omega),⟨((y2+1):Nat),⟨upSame_next I3.1 (of_decide_eq_true (by simpa using h6)),by omega⟩,(by omega),⟨rfl,rfl,(turns_sub (List.nil_sublist _))⟩,rfl⟩⟩⟩⟩⟩,
 fun h5=>have h5:¬ (y2:Int) < (l.length:Int):=(by simpa using h5)
(congrArg Value.bool (decide_eq_true (same_yes (z:=mz) (by omega) I3.1 (by omega))).symm)⟩⟩⟩)
theorem x_sameN (A A2:Option Addr) (c c2:Nat) (l l2:List order.Nt)  (w:World) (hx:Elems rdNt 5 w (Lt w.heap.size) A l) (hx2:Elems rdNt 5 w (Lt w.heap.size) A2 l2) (hl:l.length≤1000):Calls Try.prog 37 #[.slice A l.length c,.slice A2 l2.length c2] w fun e w'=>e = .returned (.bool (decide (l=l2)))∧Below w.heap.size w w' :=
 calls_by (fn:=Try.f37) (r:=.bool (decide (l=l2))) (t:=.s .z (.l (Nat) (fun x=>[(0,.slice A l.length c,none),(1,.slice A2 l2.length c2,none),(5,.int .i64 (x:Int),none)]) (fun x=>[]) [] [] (fun x=>[]) (fun x=>upSame nz l l2 x∧x≤l.length) (fun x=>l.length - x) (0:Nat) (fun y2=>.s (.o [] (.p (blkA A) (offA A+y2 * 5) (order.nc (l.getD y2 nz)) (.p (blkA A2) (offA A2+y2 * 5) (order.nc (l2.getD y2 nz)) (.xs (!decide ((l.getD y2 nz)=(l2.getD y2 nz))) .z (.e (.int .i64 ((y2+1:Nat):Int)) .z))))) .z))) (X :=
 let k0:=(.bool false:Value) = .bool (decide (l=l2));let k2:=(l.length:Int);let k1 := !decide (k2=(l2.length:Int));let k3:=([]:List (Option Blk));(k1=true→k0)∧(k1=false→Brings w [] []∧(upSame nz l l2 (0:Nat)∧(0:Nat)≤l.length)∧(([.slice A l.length c,.slice A2 l2.length c2,.int .i64 0]:List Value)=[.slice A l.length c,.slice A2 l2.length c2,.int .i64 ((0:Nat):Int)]∧k3=[]∧Turns w [] [])∧true=true∧∀ (y2:Nat),let k4 := !decide ((l.getD y2 nz)=(l2.getD y2 nz));let k5:=order.nc (l2.getD y2 nz);let k6:=order.nc (l.getD y2 nz);let k7:=decide ((y2:Int) < k2);(upSame nz l l2 y2∧y2≤l.length)→∀ τ4:Nat→Value,(k7=true→Yields0 Try.prog w [] (Instr.indexAt 24 (.slice A l.length c) (.int .i64 (y2:Int))) (.pointer (some ⟨blkA A,offA A+y2 * 5,none⟩))∧Reads0 w [] (blkA A) (offA A+y2 * 5) k6∧Yields0 Try.prog w [] (Instr.indexAt 24 (.slice A2 l2.length c2) (.int .i64 (y2:Int))) (.pointer (some ⟨blkA A2,offA A2+y2 * 5,none⟩))∧Reads0 w [] (blkA A2) (offA A2+y2 * 5) k5∧Yields0 Try.prog w [] (do eqGuard BinOp.neq 51 (.tmp 20) (.tmp 24) (.agg k6) (.agg k5);Go.binOp BinOp.neq 51 (.agg k6) (.agg k5)) (.bool k4)∧(k4=true→k0)∧(k4=false→(.int .i64 (IntKind.i64.wrap ((y2:Int)+1)):Value) = .int .i64 ((y2+1:Nat):Int)∧∃ x' : Nat,(upSame nz l l2 x'∧x'≤l.length)∧(l.length - x' < l.length - y2)∧(([.slice A l.length c,.slice A2 l2.length c2,.int .i64 ((y2+1:Nat):Int)]:List Value)=[.slice A l.length c,.slice A2 l2.length c2,.int .i64 (x' : Int)]∧k3=[]∧Turns w [] [])∧true=true))∧(k7=false→((.bool true:Value) = .bool (decide (l=l2)))))) Try.func37 (by kernel_rfl)
 (⟨fun h1=>have h1:¬ (l.length:Int)=(l2.length:Int):=(by simpa using h1)
(congrArg Value.bool (decide_eq_false (fun e=>by have:=congrArg List.length e;omega)).symm),
 fun h1=>have h1:(l.length:Int)=(l2.length:Int):=(by simpa using h1)
⟨(fun w _ _=>news_nil),⟨fun j h=>absurd h (by omega),Nat.zero_le _⟩,⟨rfl,rfl,(turns_sub (List.nil_sublist _))⟩,rfl,fun y2 I3 τ4=>⟨fun h5=>have h5:(y2:Int) < (l.length:Int):=(by simpa using h5)
⟨(low_index Try.underlying24 info_nt nt_cells (Nat.le_refl _) hx rfl (by omega)),(low_reads nt_cells (Nat.le_refl _) hx (at_getD (by omega))),⟨(low_index Try.underlying24 info_nt nt_cells (Nat.le_refl _) hx2 rfl (by omega)),(low_reads nt_cells (Nat.le_refl _) hx2 (at_getD (by omega))),⟨neq_agg (by kernel_rfl) (run_eq5 (l.getD y2 nz) (l2.getD y2 nz) (fine_nt hx _ (getD_mem (by omega))) (fine_nt hx2 _ (getD_mem (by omega)))) _ _,fun h6=>(congrArg Value.bool (decide_eq_false (same_no (z:=nz) (n:=y2) (of_decide_eq_false (by simpa using h6)))).symm),
 fun h6=>⟨wrap_is (by omega) (by omega) (by omega),⟨((y2+1):Nat),⟨upSame_next I3.1 (of_decide_eq_true (by simpa using h6)),by omega⟩,(by omega),⟨rfl,rfl,(turns_sub (List.nil_sublist _))⟩,rfl⟩⟩⟩⟩⟩,
 fun h5=>have h5:¬ (y2:Int) < (l.length:Int):=(by simpa using h5)
(congrArg Value.bool (decide_eq_true (same_yes (z:=nz) (by omega) I3.1 (by omega))).symm)⟩⟩⟩)
theorem x_same (v:Vv) (s:Vn) (u:Vv) (t:Vn)  (w:World) (h:InV w (Lt w.heap.size) v s) (g:InV w (Lt w.heap.size) u t) (hs:s.l.length≤1000∧s.os.length≤1000∧s.ns.length≤1000):Calls Try.prog 16 #[.agg (vc v s),.agg (vc u t)] w fun e w'=>e = .returned (.bool (decide (s=t)))∧Below w.heap.size w w' :=
 calls_by (fn:=Try.f16) (r:=.bool (decide (s=t))) (t:=.s (.k (.k .z)) (.k (.cs (decide (s.l=t.l)) (.k (.cs (decide (s.ns=t.ns)) (.l (Nat) (fun x=>[(2,undef,some (0,0)),(3,undef,some (1,0)),(5,.int .i64 (x:Int),none)]) (fun x=>[]) [0,1] [] (fun x=>[]) (fun x=>upSame oz s.os t.os x∧x≤s.os.length) (fun x=>s.os.length - x) (0:Nat) (fun y4=>let k0:=s.os.getD y4 order.oz;let k1:=t.os.getD y4 order.oz; .s (.o [] (.p (blkA v.A2) (offA v.A2+y4 * 12) (order.oc k0) (.p (blkA u.A2) (offA u.A2+y4 * 12) (order.oc k1) (.xs (!decide (k0=k1)) .z (.e (.int .i64 ((y4+1:Nat):Int)) .z))))) .z)) .z)) (.k .z)))) (X :=
 let k0:=(.bool false:Value) = .bool (decide (s=t));let k1:=(s.os.length:Int);let k2:=decide (s.ns=t.ns);let k3:=decide (s.l=t.l);let k4 := !decide (k1=(t.os.length:Int)); ∀ g0:Nat,let k5:Option Addr:=some ⟨g0,0,none⟩;  ∀ g1:Nat,let k6:=([some ⟨g1,0,(vc u t),.own 26⟩,some ⟨g0,0,(vc v s),.own 26⟩]:List (Option Blk));let k7:Option Addr:=some ⟨g1,0,none⟩;(k4=true→k0)∧(k4=false→Gives Try.prog w [] 36 #[.slice v.A1 s.l.length v.c1,.slice u.A1 t.l.length u.c1] (.bool k3)∧(k3=true→Gives Try.prog w [] 37 #[.slice v.A3 s.ns.length v.c3,.slice u.A3 t.ns.length u.c3] (.bool k2)∧(k2=true→Brings w [] []∧(upSame oz s.os t.os (0:Nat)∧(0:Nat)≤s.os.length)∧(([.pointer k5,.pointer k7,.int .i64 0]:List Value)=[.pointer k5,.pointer k7,.int .i64 ((0:Nat):Int)]∧k6=[some ⟨g1,0,(vc u t),.own 26⟩,some ⟨g0,0,(vc v s),.own 26⟩]∧Turns w [] [])∧true=true∧∀ (y4:Nat),let k8 := !decide ((s.os.getD y4 order.oz)=(t.os.getD y4 order.oz));let k9:=order.oc (s.os.getD y4 order.oz);let k10:=order.oc (t.os.getD y4 order.oz);let k11:=decide ((y4:Int) < k1);(upSame oz s.os t.os y4∧y4≤s.os.length)→∀ τ6:Nat→Value,(k11=true→Yields0 Try.prog w [] (Instr.indexAt 23 (.slice v.A2 s.os.length v.c2) (.int .i64 (y4:Int))) (.pointer (some ⟨blkA v.A2,offA v.A2+y4 * 12,none⟩))∧Reads0 w [] (blkA v.A2) (offA v.A2+y4 * 12) k9∧Yields0 Try.prog w [] (Instr.indexAt 23 (.slice u.A2 t.os.length u.c2) (.int .i64 (y4:Int))) (.pointer (some ⟨blkA u.A2,offA u.A2+y4 * 12,none⟩))∧Reads0 w [] (blkA u.A2) (offA u.A2+y4 * 12) k10∧Yields0 Try.prog w [] (do eqGuard BinOp.neq 53 (.tmp 40) (.tmp 45) (.agg k9) (.agg k10);Go.binOp BinOp.neq 53 (.agg k9) (.agg k10)) (.bool k8)∧(k8=true→k0)∧(k8=false→(.int .i64 (IntKind.i64.wrap ((y4:Int)+1)):Value) = .int .i64 ((y4+1:Nat):Int)∧∃ x' : Nat,(upSame oz s.os t.os x'∧x'≤s.os.length)∧(s.os.length - x' < s.os.length - y4)∧(([.pointer k5,.pointer k7,.int .i64 ((y4+1:Nat):Int)]:List Value)=[.pointer k5,.pointer k7,.int .i64 (x' : Int)]∧k6=[some ⟨g1,0,(vc u t),.own 26⟩,some ⟨g0,0,(vc v s),.own 26⟩]∧Turns w [] [])∧true=true))∧(k11=false→((.bool true:Value) = .bool (decide (s=t)))))∧(k2=false→k0))∧(k3=false→k0))) Try.func16 (by kernel_rfl)
 (fun g0=>fun g1=>⟨fun h1=>have h1:¬ (s.os.length:Int)=(t.os.length:Int):=(by simpa using h1)
(congrArg Value.bool (decide_eq_false (len_no (by omega))).symm),
 fun h1=>have h1:(s.os.length:Int)=(t.os.length:Int):=(by simpa using h1)
⟨(fun w2 hw _=>x_sameM _ _ _ _ _ _ w2 (h.below hw |>.more (fun _ h=>Nat.lt_of_lt_of_le h hw.size)).l (g.below hw |>.more (fun _ h=>Nat.lt_of_lt_of_le h hw.size)).l hs.1),fun h2=>⟨(fun w2 hw _=>x_sameN _ _ _ _ _ _ w2 (h.below hw |>.more (fun _ h=>Nat.lt_of_lt_of_le h hw.size)).n (g.below hw |>.more (fun _ h=>Nat.lt_of_lt_of_le h hw.size)).n hs.2.2),fun h3=>⟨(fun w _ _=>news_nil),⟨fun j h=>absurd h (by omega),Nat.zero_le _⟩,⟨rfl,rfl,(turns_sub (List.nil_sublist _))⟩,rfl,fun y4 I5 τ6=>⟨fun h7=>have h7:(y4:Int) < (s.os.length:Int):=(by simpa using h7)
⟨(low_index Try.underlying23 info_order order_cells (Nat.le_refl _) h.o rfl (by omega)),(low_reads order_cells (Nat.le_refl _) h.o (at_getD (by omega))),⟨(low_index Try.underlying23 info_order order_cells (Nat.le_refl _) g.o rfl (by omega)),(low_reads order_cells (Nat.le_refl _) g.o (at_getD (by omega))),⟨neq_agg (by kernel_rfl) (order.run_eq12 (s.os.getD y4 order.oz) (t.os.getD y4 order.oz) (fine_or h.o _ (getD_mem (by omega))) (fine_or g.o _ (getD_mem (by omega)))) _ _,fun h8=>(congrArg Value.bool (decide_eq_false (fun e=>same_no (z:=oz) (n:=y4) (of_decide_eq_false (by simpa using h8)) (congrArg Vn.os e))).symm),
 fun h8=>⟨wrap_is (by omega) (by omega) (by omega),⟨((y4+1):Nat),⟨upSame_next I5.1 (of_decide_eq_true (by simpa using h8)),by omega⟩,(by omega),⟨rfl,rfl,(turns_sub (List.nil_sublist _))⟩,rfl⟩⟩⟩⟩⟩,
 fun h7=>have h7:¬ (y4:Int) < (s.os.length:Int):=(by simpa using h7)
(congrArg Value.bool (decide_eq_true (vn_same (of_decide_eq_true h2) (same_yes (z:=oz) (by omega) I5.1 (by omega)) (of_decide_eq_true h3))).symm)⟩⟩,
 fun h3=>(congrArg Value.bool (decide_eq_false (fun e=>of_decide_eq_false h3 (congrArg Vn.ns e))).symm)⟩,
 fun h2=>(congrArg Value.bool (decide_eq_false (fun e=>of_decide_eq_false h2 (congrArg Vn.l e))).symm)⟩⟩)
theorem x_short (v:Vv) (s:Vn)  (w:World):Calls Try.prog 7 #[.agg (vc v s)] w fun e w'=>e = .returned (.bool (shortV s))∧Below w.heap.size w w' :=
 calls_by (fn:=Try.f7) (r:=.bool (shortV s)) (t:=.s (.k (.s (.k (.s .z .z)) (.k .z))) (.k (.k .z))) (X :=
 let k0:=(.bool false:Value) = .bool (shortV s);let k1:=decide ((s.os.length:Int)≤450);let k2:=decide ((s.ns.length:Int)≤450);let k3:=decide ((s.l.length:Int)≤450); ∀ g0:Nat,(k3=true→(k1=true→(k2=true→((.bool true:Value) = .bool (shortV s)))∧(k2=false→k0))∧(k1=false→k0))∧(k3=false→k0)) Try.func7 (by kernel_rfl)
 (fun g0=>⟨fun h1=>have h1:¬ 450 < (s.l.length:Int):=(by simpa using h1)
⟨fun h2=>have h2:¬ 450 < (s.os.length:Int):=(by simpa using h2)
⟨fun h3=>have h3:¬ 450 < (s.ns.length:Int):=(by simpa using h3)
(congrArg Value.bool (decide_eq_true (by omega)).symm),
 fun h3=>have h3:450 < (s.ns.length:Int):=(by simpa using h3)
(congrArg Value.bool (decide_eq_false (by omega)).symm)⟩,
 fun h2=>have h2:450 < (s.os.length:Int):=(by simpa using h2)
(congrArg Value.bool (decide_eq_false (by omega)).symm)⟩,
 fun h1=>have h1:450 < (s.l.length:Int):=(by simpa using h1)
(congrArg Value.bool (decide_eq_false (by omega)).symm)⟩)
end Go.Proofs.Ytcpahggkioagkaa.venue
