/-
  CellMv
-/
import Derived.Test.YtbbjlfbemibfcaaGreatMrt24
import Derived.Test.YtbbjlfbemibfcaaGreatMrt31
set_option linter.unusedVariables false
set_option linter.unusedSimpArgs false
namespace Go.Proofs.YtbbjlfbemibfcaaGreat.book
open Go.RowKit Go.Proofs.YtbbjlfbemibfcaaGreat
open Go.Proofs.YtbbjlfbemibfcaaGreat.order (Or open_ worth)
open Go.Proofs.YtbbjlfbemibfcaaGreat.cell (Ce Ex)
open Go.Proofs.YtbbjlfbemibfcaaGreat.rec (Rc)
set_option maxRecDepth 20000
variable {w0:World} {D:List Fact}
theorem addV_eq {a b:Int} (h:addE a b=0):addV a b=a+b:=by unfold addV;rw [if_pos (addE_iff.1 h)]
theorem subV_eq {a b:Int} (h:subE a b=0):subV a b=a - b:=by unfold subV;rw [if_pos (subE_iff.1 h)]
theorem leaf_eq {x y:Ce × Int} (h:x=y):(.tuple #[.agg (cell.cc y.1),.int .i64 y.2]:Value) = .tuple #[.agg (cell.cc x.1),.int .i64 x.2]:=by rw [h]
theorem side_of {o:Or} (h:order.right o=true) (hd:¬ o.d=2):o.d=1:=by have:=order.right_iff.1 h;unfold order.Rightly at this;omega
theorem come_leaf1 {c:Ce} {o:Or} (h:cell.right c=false∨order.right o=false):cell.come c o=(c,1):=by unfold cell.come;rw [if_pos h]
theorem come_leaf2 {c:Ce} {o:Or} (h1:cell.right c=true) (h2:order.right o=true) (h:¬ (worth o).2=0):cell.come c o=(c,3):=by unfold cell.come;rw [if_neg (by simp [h1,h2]),if_pos h]
theorem come_leaf3 {c:Ce} {o:Or} (hc:c.fine) (h1:cell.right c=true) (h2:order.right o=true) (h:(worth o).2=0) (hd:o.d=2) (h3:addE c.s (open_ o)=0) (h4:addE c.n (worth o).1=0) (h5:cell.right ⟨c.p,c.b,addV c.s (open_ o),addV c.n (worth o).1⟩=true):cell.come c o=(⟨c.p,c.b,addV c.s (open_ o),addV c.n (worth o).1⟩,0):=by
 unfold cell.come
 rw [if_neg (by simp [h1,h2]),if_neg (by simp [h])]
 rw [addV_eq h3,addV_eq h4] at *
 have e:cell.turned c o.d (open_ o) ((worth o).1)=⟨c.p,c.b,c.s+open_ o,c.n+(worth o).1⟩:=by unfold cell.turned;rw [if_neg (by omega)]<;>simp [Int.sub_eq_add_neg]
 rw [e]
 exact cell.good_ok.2 ⟨rfl,⟨hc.1,hc.2.1,addE_iff.1 h3,addE_iff.1 h4⟩,cell.right_iff.1 h5⟩
theorem come_leaf4 {c:Ce} {o:Or} (hc:c.fine) (h1:cell.right c=true) (h2:order.right o=true) (h:(worth o).2=0) (hd:o.d=1) (h3:addE c.b (open_ o)=0) (h4:addE c.n (worth o).1=0) (h5:cell.right ⟨c.p,addV c.b (open_ o),c.s,addV c.n (worth o).1⟩=true):cell.come c o=(⟨c.p,addV c.b (open_ o),c.s,addV c.n (worth o).1⟩,0):=by
 unfold cell.come
 rw [if_neg (by simp [h1,h2]),if_neg (by simp [h])]
 rw [addV_eq h3,addV_eq h4] at *
 have e:cell.turned c o.d (open_ o) ((worth o).1)=⟨c.p,c.b+open_ o,c.s,c.n+(worth o).1⟩:=by unfold cell.turned;rw [if_pos (by omega)]<;>simp [Int.sub_eq_add_neg]
 rw [e]
 exact cell.good_ok.2 ⟨rfl,⟨hc.1,addE_iff.1 h3,hc.2.2.1,addE_iff.1 h4⟩,cell.right_iff.1 h5⟩
theorem come_leaf5 {c:Ce} {o:Or} (h1:cell.right c=true) (h2:order.right o=true) (h:(worth o).2=0) (hd:o.d=2) (hb:¬ addE c.s (open_ o)=0∨¬ addE c.n (worth o).1=0∨cell.right ⟨c.p,c.b,addV c.s (open_ o),addV c.n (worth o).1⟩=false):cell.come c o=(c,3):=by
 unfold cell.come
 rw [if_neg (by simp [h1,h2]),if_neg (by simp [h])]
 have e:cell.turned c o.d (open_ o) ((worth o).1)=⟨c.p,c.b,c.s+open_ o,c.n+(worth o).1⟩:=by unfold cell.turned;rw [if_neg (by omega)]<;>simp [Int.sub_eq_add_neg]
 rw [e]
 unfold cell.good
 rw [if_neg]
 rintro ⟨hf,hr⟩
 have h3:addE c.s (open_ o)=0:=addE_iff.2 hf.2.2.1
 have h4:addE c.n (worth o).1=0:=addE_iff.2 hf.2.2.2
 rw [addV_eq h3,addV_eq h4] at hb
 rcases hb with hb | hb | hb
 ·exact hb h3
 ·exact hb h4
 ·rw [cell.right_iff.2 hr] at hb;cases hb
theorem come_leaf6 {c:Ce} {o:Or} (h1:cell.right c=true) (h2:order.right o=true) (h:(worth o).2=0) (hd:o.d=1) (hb:¬ addE c.b (open_ o)=0∨¬ addE c.n (worth o).1=0∨cell.right ⟨c.p,addV c.b (open_ o),c.s,addV c.n (worth o).1⟩=false):cell.come c o=(c,3):=by
 unfold cell.come
 rw [if_neg (by simp [h1,h2]),if_neg (by simp [h])]
 have e:cell.turned c o.d (open_ o) ((worth o).1)=⟨c.p,c.b+open_ o,c.s,c.n+(worth o).1⟩:=by unfold cell.turned;rw [if_pos (by omega)]<;>simp [Int.sub_eq_add_neg]
 rw [e]
 unfold cell.good
 rw [if_neg]
 rintro ⟨hf,hr⟩
 have h3:addE c.b (open_ o)=0:=addE_iff.2 hf.2.1
 have h4:addE c.n (worth o).1=0:=addE_iff.2 hf.2.2.2
 rw [addV_eq h3,addV_eq h4] at hb
 rcases hb with hb | hb | hb
 ·exact hb h3
 ·exact hb h4
 ·rw [cell.right_iff.2 hr] at hb;cases hb
theorem go_leaf1 {c:Ce} {o:Or} (h:cell.right c=false∨order.right o=false):cell.go c o=(c,1):=by unfold cell.go;rw [if_pos h]
theorem go_leaf2 {c:Ce} {o:Or} (h1:cell.right c=true) (h2:order.right o=true) (h:¬ (worth o).2=0):cell.go c o=(c,3):=by unfold cell.go;rw [if_neg (by simp [h1,h2]),if_pos h]
theorem go_leaf3 {c:Ce} {o:Or} (hc:c.fine) (h1:cell.right c=true) (h2:order.right o=true) (h:(worth o).2=0) (hd:o.d=2) (h3:subE c.s (open_ o)=0) (h4:subE c.n (worth o).1=0) (h5:cell.right ⟨c.p,c.b,subV c.s (open_ o),subV c.n (worth o).1⟩=true):cell.go c o=(⟨c.p,c.b,subV c.s (open_ o),subV c.n (worth o).1⟩,0):=by
 unfold cell.go
 rw [if_neg (by simp [h1,h2]),if_neg (by simp [h])]
 rw [subV_eq h3,subV_eq h4] at *
 have e:cell.turned c o.d (-(open_ o)) (-(worth o).1)=⟨c.p,c.b,c.s - open_ o,c.n - (worth o).1⟩:=by unfold cell.turned;rw [if_neg (by omega)]<;>simp [Int.sub_eq_add_neg]
 rw [e]
 exact cell.good_ok.2 ⟨rfl,⟨hc.1,hc.2.1,subE_iff.1 h3,subE_iff.1 h4⟩,cell.right_iff.1 h5⟩
theorem go_leaf4 {c:Ce} {o:Or} (hc:c.fine) (h1:cell.right c=true) (h2:order.right o=true) (h:(worth o).2=0) (hd:o.d=1) (h3:subE c.b (open_ o)=0) (h4:subE c.n (worth o).1=0) (h5:cell.right ⟨c.p,subV c.b (open_ o),c.s,subV c.n (worth o).1⟩=true):cell.go c o=(⟨c.p,subV c.b (open_ o),c.s,subV c.n (worth o).1⟩,0):=by
 unfold cell.go
 rw [if_neg (by simp [h1,h2]),if_neg (by simp [h])]
 rw [subV_eq h3,subV_eq h4] at *
 have e:cell.turned c o.d (-(open_ o)) (-(worth o).1)=⟨c.p,c.b - open_ o,c.s,c.n - (worth o).1⟩:=by unfold cell.turned;rw [if_pos (by omega)]<;>simp [Int.sub_eq_add_neg]
 rw [e]
 exact cell.good_ok.2 ⟨rfl,⟨hc.1,subE_iff.1 h3,hc.2.2.1,subE_iff.1 h4⟩,cell.right_iff.1 h5⟩
theorem go_leaf5 {c:Ce} {o:Or} (h1:cell.right c=true) (h2:order.right o=true) (h:(worth o).2=0) (hd:o.d=2) (hb:¬ subE c.s (open_ o)=0∨¬ subE c.n (worth o).1=0∨cell.right ⟨c.p,c.b,subV c.s (open_ o),subV c.n (worth o).1⟩=false):cell.go c o=(c,3):=by
 unfold cell.go
 rw [if_neg (by simp [h1,h2]),if_neg (by simp [h])]
 have e:cell.turned c o.d (-(open_ o)) (-(worth o).1)=⟨c.p,c.b,c.s - open_ o,c.n - (worth o).1⟩:=by unfold cell.turned;rw [if_neg (by omega)]<;>simp [Int.sub_eq_add_neg]
 rw [e]
 unfold cell.good
 rw [if_neg]
 rintro ⟨hf,hr⟩
 have h3:subE c.s (open_ o)=0:=subE_iff.2 hf.2.2.1
 have h4:subE c.n (worth o).1=0:=subE_iff.2 hf.2.2.2
 rw [subV_eq h3,subV_eq h4] at hb
 rcases hb with hb | hb | hb
 ·exact hb h3
 ·exact hb h4
 ·rw [cell.right_iff.2 hr] at hb;cases hb
theorem go_leaf6 {c:Ce} {o:Or} (h1:cell.right c=true) (h2:order.right o=true) (h:(worth o).2=0) (hd:o.d=1) (hb:¬ subE c.b (open_ o)=0∨¬ subE c.n (worth o).1=0∨cell.right ⟨c.p,subV c.b (open_ o),c.s,subV c.n (worth o).1⟩=false):cell.go c o=(c,3):=by
 unfold cell.go
 rw [if_neg (by simp [h1,h2]),if_neg (by simp [h])]
 have e:cell.turned c o.d (-(open_ o)) (-(worth o).1)=⟨c.p,c.b - open_ o,c.s,c.n - (worth o).1⟩:=by unfold cell.turned;rw [if_pos (by omega)]<;>simp [Int.sub_eq_add_neg]
 rw [e]
 unfold cell.good
 rw [if_neg]
 rintro ⟨hf,hr⟩
 have h3:subE c.b (open_ o)=0:=subE_iff.2 hf.2.1
 have h4:subE c.n (worth o).1=0:=subE_iff.2 hf.2.2.2
 rw [subV_eq h3,subV_eq h4] at hb
 rcases hb with hb | hb | hb
 ·exact hb h3
 ·exact hb h4
 ·rw [cell.right_iff.2 hr] at hb;cases hb
theorem did_bad {c:Ce} {d q:Int} (h:cell.right c=false∨(d < 1∨2 < d∨q < 0)):cell.did c d q=(c,1):=by unfold cell.did;rw [if_pos h]
theorem did_s {c:Ce} {d q:Int} (hc:c.fine) (h:cell.right c=true) (h1:¬ (d < 1∨2 < d)) (h2:¬ q < 0) (hd:d=2) (h3:subE c.p q=0) (h4:cell.right ⟨subV c.p q,c.b,c.s,c.n⟩=true):cell.did c d q=(⟨subV c.p q,c.b,c.s,c.n⟩,0):=by
 unfold cell.did cell.moved
 rw [if_neg (by simp only [h];simp;omega),if_pos hd]
 rw [subV_eq h3] at *
 exact cell.good_ok.2 ⟨rfl,⟨subE_iff.1 h3,hc.2⟩,cell.right_iff.1 h4⟩
theorem did_sn {c:Ce} {d q:Int} (h:cell.right c=true) (h1:¬ (d < 1∨2 < d)) (h2:¬ q < 0) (hd:d=2) (h3:¬ subE c.p q=0∨cell.right ⟨subV c.p q,c.b,c.s,c.n⟩=false):cell.did c d q=(c,3):=by
 unfold cell.did cell.moved
 rw [if_neg (by simp only [h];simp;omega),if_pos hd]
 unfold cell.good
 rw [if_neg]
 rintro ⟨hf,hr⟩
 have h5:subE c.p q=0:=subE_iff.2 hf.1
 rw [subV_eq h5,cell.right_iff.2 hr] at h3
 simp [h5] at h3
theorem did_b {c:Ce} {d q:Int} (hc:c.fine) (h:cell.right c=true) (h1:¬ (d < 1∨2 < d)) (h2:¬ q < 0) (hd:¬ d=2) (h3:addE c.p q=0) (h4:cell.right ⟨addV c.p q,c.b,c.s,c.n⟩=true):cell.did c d q=(⟨addV c.p q,c.b,c.s,c.n⟩,0):=by
 unfold cell.did cell.moved
 rw [if_neg (by simp only [h];simp;omega),if_neg hd]
 rw [addV_eq h3] at *
 exact cell.good_ok.2 ⟨rfl,⟨addE_iff.1 h3,hc.2⟩,cell.right_iff.1 h4⟩
theorem did_bn {c:Ce} {d q:Int} (h:cell.right c=true) (h1:¬ (d < 1∨2 < d)) (h2:¬ q < 0) (hd:¬ d=2) (h3:¬ addE c.p q=0∨cell.right ⟨addV c.p q,c.b,c.s,c.n⟩=false):cell.did c d q=(c,3):=by
 unfold cell.did cell.moved
 rw [if_neg (by simp only [h];simp;omega),if_neg hd]
 unfold cell.good
 rw [if_neg]
 rintro ⟨hf,hr⟩
 have h5:addE c.p q=0:=addE_iff.2 hf.1
 rw [addV_eq h5,cell.right_iff.2 hr] at h3
 simp [h5] at h3
theorem moved_come (c:Ce) (o:Or) (hc:c.fine) (ho:o.fine) (w:World):Calls Tryz.prog 94 #[.agg (cell.cc c),.agg (order.oc o),.func (.func 95) #[] #[]] w fun e w'=>e = .returned (.tuple #[.agg (cell.cc (cell.come c o).1),.int .i64 (cell.come c o).2])∧Below w.heap.size w w' :=
 calls_by (fn:=Tryz.f94) (r:=.tuple #[.agg (cell.cc (cell.come c o).1),.int .i64 (cell.come c o).2]) (t:=let k1:=addV c.n ((worth o).1);let k0:Value:=.tuple #[.int .i64 k1,.int .i64 (addE c.n ((worth o).1))];let k5:=addV c.s (open_ o);let k2:Value:=.tuple #[.int .i64 k5,.int .i64 (addE c.s (open_ o))];let k6:=addV c.b (open_ o);let k3:Value:=.tuple #[.int .i64 k6,.int .i64 (addE c.b (open_ o))];let k4:Value:=.int .i64 (open_ o); .cs (cell.right c) (.k (.cs (order.right o) (.c (.tuple #[.int .i64 ((worth o).1),.int .i64 ((worth o).2)]) (.s .z (.s (.o [3] (.two (.c k4 (.c k2 (.c k0 (.s (.k (.k .z)) (.k (.s (.k .z) (.k (.cs (cell.right (⟨c.p,c.b,k5,k1⟩)) .z .z)))))))) (.c k4 (.c k2 (.c k0 (.s (.k (.k .z)) (.k (.s (.k .z) (.k (.cs (cell.right (⟨c.p,c.b,k5,k1⟩)) .z .z)))))))))) (.o [3] (.two (.c k4 (.c k3 (.c k0 (.s (.k (.k .z)) (.k (.s (.k .z) (.k (.cs (cell.right (⟨c.p,k6,c.s,k1⟩)) .z .z)))))))) (.c k4 (.c k3 (.c k0 (.s (.k (.k .z)) (.k (.s (.k .z) (.k (.cs (cell.right (⟨c.p,k6,c.s,k1⟩)) .z .z))))))))))))) .z)) (.k .z)) (X :=
 let k2:Array Value:=#[.agg (cell.cc (cell.come c o).1),.int .i64 (cell.come c o).2];let k0:=(.tuple #[.agg (cell.cc c),.int .i64 3]:Value) = .tuple k2;let k1:=addV c.n ((worth o).1);let k3 := !decide ((addE c.n ((worth o).1))=0);let k7:=addV c.s (open_ o);let k4:Array Value:=#[.int .i64 c.p,.int .i64 c.b,.int .i64 k7,.int .i64 k1];let k8:=addV c.b (open_ o);let k5:Array Value:=#[.int .i64 c.p,.int .i64 k8,.int .i64 c.s,.int .i64 k1];let k6:Value:=.tuple #[.int .i64 k1,.int .i64 (addE c.n ((worth o).1))];let k9:Array Value:=#[.int .i64 c.n,.int .i64 ((worth o).1)];let k10 := !decide ((addE c.s (open_ o))=0);let k11 := !decide ((addE c.b (open_ o))=0);let k12:Array Value:=#[.agg (order.oc o)];let k13:=(.tuple #[.agg (cell.cc c),.int .i64 1]:Value) = .tuple k2;let k14:=(.tuple #[.agg k4,.int .i64 0]:Value) = .tuple k2;let k15:=(.tuple #[.agg k5,.int .i64 0]:Value) = .tuple k2;let k16:Value:=.int .i64 (open_ o);let k17:Value:=.tuple #[.int .i64 k7,.int .i64 (addE c.s (open_ o))];let k18:Value:=.tuple #[.int .i64 k8,.int .i64 (addE c.b (open_ o))];let k19:Value:=.bool (cell.right (⟨c.p,c.b,k7,k1⟩));let k20:Value:=.bool (cell.right (⟨c.p,k8,c.s,k1⟩));let k21 := !decide (((worth o).2)=0);let k22:=order.right o; ∀ g0:Nat,∀ g1:Nat,∀ g2:Nat,Gives Tryz.prog w [] 69 #[.agg (cell.cc c)] (.bool (cell.right c))∧((cell.right c)=true→Gives Tryz.prog w [] 67 k12 (.bool k22)∧(k22=true→Gives Tryz.prog w [] 116 k12 (.tuple #[.int .i64 ((worth o).1),.int .i64 ((worth o).2)])∧(k21=true→k0)∧(k21=false→∀ g3:Nat,((decide (o.d=2))=true→(Gives Tryz.prog w [] 117 k12 k16∧Gives Tryz.prog w [] 95 #[.int .i64 c.s,.int .i64 (open_ o)] k17∧Gives Tryz.prog w [] 95 k9 k6∧(k10=true→k0)∧(k10=false→(k3=true→k0)∧(k3=false→Gives Tryz.prog w [] 69 #[.agg k4] k19∧((cell.right (⟨c.p,c.b,k7,k1⟩))=true→k14)∧((cell.right (⟨c.p,c.b,k7,k1⟩))=false→k0))))∧(Gives Tryz.prog w [] 117 k12 k16∧Gives Tryz.prog w [] 95 #[.int .i64 c.s,.int .i64 (open_ o)] k17∧Gives Tryz.prog w [] 95 k9 k6∧(k10=true→k0)∧(k10=false→(k3=true→k0)∧(k3=false→Gives Tryz.prog w [] 69 #[.agg k4] k19∧((cell.right (⟨c.p,c.b,k7,k1⟩))=true→k14)∧((cell.right (⟨c.p,c.b,k7,k1⟩))=false→k0)))))∧((decide (o.d=2))=false→(Gives Tryz.prog w [] 117 k12 k16∧Gives Tryz.prog w [] 95 #[.int .i64 c.b,.int .i64 (open_ o)] k18∧Gives Tryz.prog w [] 95 k9 k6∧(k11=true→k0)∧(k11=false→(k3=true→k0)∧(k3=false→Gives Tryz.prog w [] 69 #[.agg k5] k20∧((cell.right (⟨c.p,k8,c.s,k1⟩))=true→k15)∧((cell.right (⟨c.p,k8,c.s,k1⟩))=false→k0))))∧(Gives Tryz.prog w [] 117 k12 k16∧Gives Tryz.prog w [] 95 #[.int .i64 c.b,.int .i64 (open_ o)] k18∧Gives Tryz.prog w [] 95 k9 k6∧(k11=true→k0)∧(k11=false→(k3=true→k0)∧(k3=false→Gives Tryz.prog w [] 69 #[.agg k5] k20∧((cell.right (⟨c.p,k8,c.s,k1⟩))=true→k15)∧((cell.right (⟨c.p,k8,c.s,k1⟩))=false→k0)))))))∧(k22=false→k13))∧((cell.right c)=false→k13)) Tryz.func94 (by kernel_rfl)
 (fun g0=>fun g1=>fun g2=>⟨l_cright hc,fun h1=>⟨l_oright ho,fun h2=>⟨l_worth ho,⟨fun h3=>have h3:¬ ((worth o).2)=0:=(by simpa using h3)
(leaf_eq (come_leaf2 h1 h2 h3)),
 fun h3=>have h3:((worth o).2)=0:=(by simpa using h3)
 fun g3=>⟨fun h4=>have h4:o.d=2:=(by simpa using h4)
⟨⟨l_open ho,⟨n_add (hc.2.2.1) (cell.open_in ho),⟨n_add (hc.2.2.2) (cell.worth_in o),⟨fun h5=>have h5:¬ (addE c.s (open_ o))=0:=(by simpa using h5)
(leaf_eq (come_leaf5 h1 h2 h3 h4 (.inl h5))),
 fun h5=>have h5:(addE c.s (open_ o))=0:=(by simpa using h5)
⟨fun h6=>have h6:¬ (addE c.n ((worth o).1))=0:=(by simpa using h6)
(leaf_eq (come_leaf5 h1 h2 h3 h4 (.inr (.inl h6)))),
 fun h6=>have h6:(addE c.n ((worth o).1))=0:=(by simpa using h6)
⟨l_cright ⟨(hc.1),(hc.2.1),(addV_in _ _),(addV_in _ _)⟩,fun h7=>(leaf_eq (come_leaf3 hc h1 h2 h3 h4 h5 h6 h7)),
 fun h7=>(leaf_eq (come_leaf5 h1 h2 h3 h4 (.inr (.inr h7))))⟩⟩⟩⟩⟩⟩,
⟨l_open ho,⟨n_add (hc.2.2.1) (cell.open_in ho),⟨n_add (hc.2.2.2) (cell.worth_in o),⟨fun h8=>have h8:¬ (addE c.s (open_ o))=0:=(by simpa using h8)
(leaf_eq (come_leaf5 h1 h2 h3 h4 (.inl h8))),
 fun h8=>have h8:(addE c.s (open_ o))=0:=(by simpa using h8)
⟨fun h9=>have h9:¬ (addE c.n ((worth o).1))=0:=(by simpa using h9)
(leaf_eq (come_leaf5 h1 h2 h3 h4 (.inr (.inl h9)))),
 fun h9=>have h9:(addE c.n ((worth o).1))=0:=(by simpa using h9)
⟨l_cright ⟨(hc.1),(hc.2.1),(addV_in _ _),(addV_in _ _)⟩,fun h10=>(leaf_eq (come_leaf3 hc h1 h2 h3 h4 h8 h9 h10)),
 fun h10=>(leaf_eq (come_leaf5 h1 h2 h3 h4 (.inr (.inr h10))))⟩⟩⟩⟩⟩⟩⟩,
 fun h4=>have h4:¬ o.d=2:=(by simpa using h4)
⟨⟨l_open ho,⟨n_add (hc.2.1) (cell.open_in ho),⟨n_add (hc.2.2.2) (cell.worth_in o),⟨fun h11=>have h11:¬ (addE c.b (open_ o))=0:=(by simpa using h11)
(leaf_eq (come_leaf6 h1 h2 h3 (side_of h2 h4) (.inl h11))),
 fun h11=>have h11:(addE c.b (open_ o))=0:=(by simpa using h11)
⟨fun h12=>have h12:¬ (addE c.n ((worth o).1))=0:=(by simpa using h12)
(leaf_eq (come_leaf6 h1 h2 h3 (side_of h2 h4) (.inr (.inl h12)))),
 fun h12=>have h12:(addE c.n ((worth o).1))=0:=(by simpa using h12)
⟨l_cright ⟨(hc.1),(addV_in _ _),(hc.2.2.1),(addV_in _ _)⟩,fun h13=>(leaf_eq (come_leaf4 hc h1 h2 h3 (side_of h2 h4) h11 h12 h13)),
 fun h13=>(leaf_eq (come_leaf6 h1 h2 h3 (side_of h2 h4) (.inr (.inr h13))))⟩⟩⟩⟩⟩⟩,
⟨l_open ho,⟨n_add (hc.2.1) (cell.open_in ho),⟨n_add (hc.2.2.2) (cell.worth_in o),⟨fun h14=>have h14:¬ (addE c.b (open_ o))=0:=(by simpa using h14)
(leaf_eq (come_leaf6 h1 h2 h3 (side_of h2 h4) (.inl h14))),
 fun h14=>have h14:(addE c.b (open_ o))=0:=(by simpa using h14)
⟨fun h15=>have h15:¬ (addE c.n ((worth o).1))=0:=(by simpa using h15)
(leaf_eq (come_leaf6 h1 h2 h3 (side_of h2 h4) (.inr (.inl h15)))),
 fun h15=>have h15:(addE c.n ((worth o).1))=0:=(by simpa using h15)
⟨l_cright ⟨(hc.1),(addV_in _ _),(hc.2.2.1),(addV_in _ _)⟩,fun h16=>(leaf_eq (come_leaf4 hc h1 h2 h3 (side_of h2 h4) h14 h15 h16)),
 fun h16=>(leaf_eq (come_leaf6 h1 h2 h3 (side_of h2 h4) (.inr (.inr h16))))⟩⟩⟩⟩⟩⟩⟩⟩⟩⟩,
 fun h2=>(leaf_eq (come_leaf1 (.inr h2)))⟩,
 fun h1=>(leaf_eq (come_leaf1 (.inl h1)))⟩)
theorem moved_go (c:Ce) (o:Or) (hc:c.fine) (ho:o.fine) (w:World):Calls Tryz.prog 94 #[.agg (cell.cc c),.agg (order.oc o),.func (.func 115) #[] #[]] w fun e w'=>e = .returned (.tuple #[.agg (cell.cc (cell.go c o).1),.int .i64 (cell.go c o).2])∧Below w.heap.size w w' :=
 calls_by (fn:=Tryz.f94) (r:=.tuple #[.agg (cell.cc (cell.go c o).1),.int .i64 (cell.go c o).2]) (t:=let k1:=subV c.n ((worth o).1);let k0:Value:=.tuple #[.int .i64 k1,.int .i64 (subE c.n ((worth o).1))];let k5:=subV c.s (open_ o);let k2:Value:=.tuple #[.int .i64 k5,.int .i64 (subE c.s (open_ o))];let k6:=subV c.b (open_ o);let k3:Value:=.tuple #[.int .i64 k6,.int .i64 (subE c.b (open_ o))];let k4:Value:=.int .i64 (open_ o); .cs (cell.right c) (.k (.cs (order.right o) (.c (.tuple #[.int .i64 ((worth o).1),.int .i64 ((worth o).2)]) (.s .z (.s (.o [3] (.two (.c k4 (.c k2 (.c k0 (.s (.k (.k .z)) (.k (.s (.k .z) (.k (.cs (cell.right (⟨c.p,c.b,k5,k1⟩)) .z .z)))))))) (.c k4 (.c k2 (.c k0 (.s (.k (.k .z)) (.k (.s (.k .z) (.k (.cs (cell.right (⟨c.p,c.b,k5,k1⟩)) .z .z)))))))))) (.o [3] (.two (.c k4 (.c k3 (.c k0 (.s (.k (.k .z)) (.k (.s (.k .z) (.k (.cs (cell.right (⟨c.p,k6,c.s,k1⟩)) .z .z)))))))) (.c k4 (.c k3 (.c k0 (.s (.k (.k .z)) (.k (.s (.k .z) (.k (.cs (cell.right (⟨c.p,k6,c.s,k1⟩)) .z .z))))))))))))) .z)) (.k .z)) (X :=
 let k2:Array Value:=#[.agg (cell.cc (cell.go c o).1),.int .i64 (cell.go c o).2];let k0:=(.tuple #[.agg (cell.cc c),.int .i64 3]:Value) = .tuple k2;let k1:=subV c.n ((worth o).1);let k3 := !decide ((subE c.n ((worth o).1))=0);let k7:=subV c.s (open_ o);let k4:Array Value:=#[.int .i64 c.p,.int .i64 c.b,.int .i64 k7,.int .i64 k1];let k8:=subV c.b (open_ o);let k5:Array Value:=#[.int .i64 c.p,.int .i64 k8,.int .i64 c.s,.int .i64 k1];let k6:Value:=.tuple #[.int .i64 k1,.int .i64 (subE c.n ((worth o).1))];let k9:Array Value:=#[.int .i64 c.n,.int .i64 ((worth o).1)];let k10 := !decide ((subE c.s (open_ o))=0);let k11 := !decide ((subE c.b (open_ o))=0);let k12:Array Value:=#[.agg (order.oc o)];let k13:=(.tuple #[.agg (cell.cc c),.int .i64 1]:Value) = .tuple k2;let k14:=(.tuple #[.agg k4,.int .i64 0]:Value) = .tuple k2;let k15:=(.tuple #[.agg k5,.int .i64 0]:Value) = .tuple k2;let k16:Value:=.int .i64 (open_ o);let k17:Value:=.tuple #[.int .i64 k7,.int .i64 (subE c.s (open_ o))];let k18:Value:=.tuple #[.int .i64 k8,.int .i64 (subE c.b (open_ o))];let k19:Value:=.bool (cell.right (⟨c.p,c.b,k7,k1⟩));let k20:Value:=.bool (cell.right (⟨c.p,k8,c.s,k1⟩));let k21 := !decide (((worth o).2)=0);let k22:=order.right o; ∀ g0:Nat,∀ g1:Nat,∀ g2:Nat,Gives Tryz.prog w [] 69 #[.agg (cell.cc c)] (.bool (cell.right c))∧((cell.right c)=true→Gives Tryz.prog w [] 67 k12 (.bool k22)∧(k22=true→Gives Tryz.prog w [] 116 k12 (.tuple #[.int .i64 ((worth o).1),.int .i64 ((worth o).2)])∧(k21=true→k0)∧(k21=false→∀ g3:Nat,((decide (o.d=2))=true→(Gives Tryz.prog w [] 117 k12 k16∧Gives Tryz.prog w [] 115 #[.int .i64 c.s,.int .i64 (open_ o)] k17∧Gives Tryz.prog w [] 115 k9 k6∧(k10=true→k0)∧(k10=false→(k3=true→k0)∧(k3=false→Gives Tryz.prog w [] 69 #[.agg k4] k19∧((cell.right (⟨c.p,c.b,k7,k1⟩))=true→k14)∧((cell.right (⟨c.p,c.b,k7,k1⟩))=false→k0))))∧(Gives Tryz.prog w [] 117 k12 k16∧Gives Tryz.prog w [] 115 #[.int .i64 c.s,.int .i64 (open_ o)] k17∧Gives Tryz.prog w [] 115 k9 k6∧(k10=true→k0)∧(k10=false→(k3=true→k0)∧(k3=false→Gives Tryz.prog w [] 69 #[.agg k4] k19∧((cell.right (⟨c.p,c.b,k7,k1⟩))=true→k14)∧((cell.right (⟨c.p,c.b,k7,k1⟩))=false→k0)))))∧((decide (o.d=2))=false→(Gives Tryz.prog w [] 117 k12 k16∧Gives Tryz.prog w [] 115 #[.int .i64 c.b,.int .i64 (open_ o)] k18∧Gives Tryz.prog w [] 115 k9 k6∧(k11=true→k0)∧(k11=false→(k3=true→k0)∧(k3=false→Gives Tryz.prog w [] 69 #[.agg k5] k20∧((cell.right (⟨c.p,k8,c.s,k1⟩))=true→k15)∧((cell.right (⟨c.p,k8,c.s,k1⟩))=false→k0))))∧(Gives Tryz.prog w [] 117 k12 k16∧Gives Tryz.prog w [] 115 #[.int .i64 c.b,.int .i64 (open_ o)] k18∧Gives Tryz.prog w [] 115 k9 k6∧(k11=true→k0)∧(k11=false→(k3=true→k0)∧(k3=false→Gives Tryz.prog w [] 69 #[.agg k5] k20∧((cell.right (⟨c.p,k8,c.s,k1⟩))=true→k15)∧((cell.right (⟨c.p,k8,c.s,k1⟩))=false→k0)))))))∧(k22=false→k13))∧((cell.right c)=false→k13)) Tryz.func94 (by kernel_rfl)
 (fun g0=>fun g1=>fun g2=>⟨l_cright hc,fun h1=>⟨l_oright ho,fun h2=>⟨l_worth ho,⟨fun h3=>have h3:¬ ((worth o).2)=0:=(by simpa using h3)
(leaf_eq (go_leaf2 h1 h2 h3)),
 fun h3=>have h3:((worth o).2)=0:=(by simpa using h3)
 fun g3=>⟨fun h4=>have h4:o.d=2:=(by simpa using h4)
⟨⟨l_open ho,⟨n_sub (hc.2.2.1) (cell.open_in ho),⟨n_sub (hc.2.2.2) (cell.worth_in o),⟨fun h5=>have h5:¬ (subE c.s (open_ o))=0:=(by simpa using h5)
(leaf_eq (go_leaf5 h1 h2 h3 h4 (.inl h5))),
 fun h5=>have h5:(subE c.s (open_ o))=0:=(by simpa using h5)
⟨fun h6=>have h6:¬ (subE c.n ((worth o).1))=0:=(by simpa using h6)
(leaf_eq (go_leaf5 h1 h2 h3 h4 (.inr (.inl h6)))),
 fun h6=>have h6:(subE c.n ((worth o).1))=0:=(by simpa using h6)
⟨l_cright ⟨(hc.1),(hc.2.1),(subV_in _ _),(subV_in _ _)⟩,fun h7=>(leaf_eq (go_leaf3 hc h1 h2 h3 h4 h5 h6 h7)),
 fun h7=>(leaf_eq (go_leaf5 h1 h2 h3 h4 (.inr (.inr h7))))⟩⟩⟩⟩⟩⟩,
⟨l_open ho,⟨n_sub (hc.2.2.1) (cell.open_in ho),⟨n_sub (hc.2.2.2) (cell.worth_in o),⟨fun h8=>have h8:¬ (subE c.s (open_ o))=0:=(by simpa using h8)
(leaf_eq (go_leaf5 h1 h2 h3 h4 (.inl h8))),
 fun h8=>have h8:(subE c.s (open_ o))=0:=(by simpa using h8)
⟨fun h9=>have h9:¬ (subE c.n ((worth o).1))=0:=(by simpa using h9)
(leaf_eq (go_leaf5 h1 h2 h3 h4 (.inr (.inl h9)))),
 fun h9=>have h9:(subE c.n ((worth o).1))=0:=(by simpa using h9)
⟨l_cright ⟨(hc.1),(hc.2.1),(subV_in _ _),(subV_in _ _)⟩,fun h10=>(leaf_eq (go_leaf3 hc h1 h2 h3 h4 h8 h9 h10)),
 fun h10=>(leaf_eq (go_leaf5 h1 h2 h3 h4 (.inr (.inr h10))))⟩⟩⟩⟩⟩⟩⟩,
 fun h4=>have h4:¬ o.d=2:=(by simpa using h4)
⟨⟨l_open ho,⟨n_sub (hc.2.1) (cell.open_in ho),⟨n_sub (hc.2.2.2) (cell.worth_in o),⟨fun h11=>have h11:¬ (subE c.b (open_ o))=0:=(by simpa using h11)
(leaf_eq (go_leaf6 h1 h2 h3 (side_of h2 h4) (.inl h11))),
 fun h11=>have h11:(subE c.b (open_ o))=0:=(by simpa using h11)
⟨fun h12=>have h12:¬ (subE c.n ((worth o).1))=0:=(by simpa using h12)
(leaf_eq (go_leaf6 h1 h2 h3 (side_of h2 h4) (.inr (.inl h12)))),
 fun h12=>have h12:(subE c.n ((worth o).1))=0:=(by simpa using h12)
⟨l_cright ⟨(hc.1),(subV_in _ _),(hc.2.2.1),(subV_in _ _)⟩,fun h13=>(leaf_eq (go_leaf4 hc h1 h2 h3 (side_of h2 h4) h11 h12 h13)),
 fun h13=>(leaf_eq (go_leaf6 h1 h2 h3 (side_of h2 h4) (.inr (.inr h13))))⟩⟩⟩⟩⟩⟩,
⟨l_open ho,⟨n_sub (hc.2.1) (cell.open_in ho),⟨n_sub (hc.2.2.2) (cell.worth_in o),⟨fun h14=>have h14:¬ (subE c.b (open_ o))=0:=(by simpa using h14)
(leaf_eq (go_leaf6 h1 h2 h3 (side_of h2 h4) (.inl h14))),
 fun h14=>have h14:(subE c.b (open_ o))=0:=(by simpa using h14)
⟨fun h15=>have h15:¬ (subE c.n ((worth o).1))=0:=(by simpa using h15)
(leaf_eq (go_leaf6 h1 h2 h3 (side_of h2 h4) (.inr (.inl h15)))),
 fun h15=>have h15:(subE c.n ((worth o).1))=0:=(by simpa using h15)
⟨l_cright ⟨(hc.1),(subV_in _ _),(hc.2.2.1),(subV_in _ _)⟩,fun h16=>(leaf_eq (go_leaf4 hc h1 h2 h3 (side_of h2 h4) h14 h15 h16)),
 fun h16=>(leaf_eq (go_leaf6 h1 h2 h3 (side_of h2 h4) (.inr (.inr h16))))⟩⟩⟩⟩⟩⟩⟩⟩⟩⟩,
 fun h2=>(leaf_eq (go_leaf1 (.inr h2)))⟩,
 fun h1=>(leaf_eq (go_leaf1 (.inl h1)))⟩)
theorem lcome (c:Ce) (o:Or) (hc:c.fine) (ho:o.fine) (w:World):Calls Tryz.prog 70 #[.agg (cell.cc c),.agg (order.oc o)] w fun e w'=>e = .returned (.tuple #[.agg (cell.cc (cell.come c o).1),.int .i64 (cell.come c o).2])∧Below w.heap.size w w' :=
 calls_by (fn:=Tryz.f70) (r:=.tuple #[.agg (cell.cc (cell.come c o).1),.int .i64 (cell.come c o).2]) (t:=.c (.tuple #[.agg (cell.cc ((cell.come c o).1)),.int .i64 ((cell.come c o).2)]) .z) (X :=
 let k0:=cell.come c o;let k1:Array Value:=#[.agg (cell.cc (k0.1)),.int .i64 (k0.2)]; ∀ g0:Nat,∀ g1:Nat,∀ g2:Nat,Gives Tryz.prog w [] 94 #[.agg (cell.cc c),.agg (order.oc o),.func (.func 95) #[] #[]] (.tuple k1)∧((.tuple k1:Value) = .tuple #[.agg (cell.cc k0.1),.int .i64 k0.2])) Tryz.func70 (by kernel_rfl)
 (fun g0=>fun g1=>fun g2=>⟨gives (moved_come c o hc ho),rfl⟩)
theorem lgo (c:Ce) (o:Or) (hc:c.fine) (ho:o.fine) (w:World):Calls Tryz.prog 127 #[.agg (cell.cc c),.agg (order.oc o)] w fun e w'=>e = .returned (.tuple #[.agg (cell.cc (cell.go c o).1),.int .i64 (cell.go c o).2])∧Below w.heap.size w w' :=
 calls_by (fn:=Tryz.f127) (r:=.tuple #[.agg (cell.cc (cell.go c o).1),.int .i64 (cell.go c o).2]) (t:=.c (.tuple #[.agg (cell.cc ((cell.go c o).1)),.int .i64 ((cell.go c o).2)]) .z) (X :=
 let k0:Array Value:=#[.agg (cell.cc ((cell.go c o).1)),.int .i64 ((cell.go c o).2)]; ∀ g0:Nat,∀ g1:Nat,∀ g2:Nat,Gives Tryz.prog w [] 94 #[.agg (cell.cc c),.agg (order.oc o),.func (.func 115) #[] #[]] (.tuple k0)∧((.tuple k0:Value) = .tuple #[.agg (cell.cc (cell.go c o).1),.int .i64 (cell.go c o).2])) Tryz.func127 (by kernel_rfl)
 (fun g0=>fun g1=>fun g2=>⟨gives (moved_go c o hc ho),rfl⟩)
theorem ldid (c:Ce) (d q:Int) (hc:c.fine) (hd:frame.inR d) (hq:frame.inR q) (w:World):Calls Tryz.prog 128 #[.agg (cell.cc c),.int .i64 d,.int .i64 q] w fun e w'=>e = .returned (.tuple #[.agg (cell.cc (cell.did c d q).1),.int .i64 (cell.did c d q).2])∧Below w.heap.size w w' :=
 calls_by (fn:=Tryz.f128) (r:=.tuple #[.agg (cell.cc (cell.did c d q).1),.int .i64 (cell.did c d q).2]) (t:=.cs (cell.right c) (.k (.s (.k (.s (.k .z) (.k (.s .z (.m true (.c (.tuple #[.int .i64 (subV c.p q),.int .i64 (subE c.p q)]) (.s (.k .z) (.k (.cs (cell.right (⟨(subV c.p q),c.b,c.s,c.n⟩)) .z .z))))))))) (.k (.k (.s .z (.m false (.c (.tuple #[.int .i64 (addV c.p q),.int .i64 (addE c.p q)]) (.s (.k .z) (.k (.cs (cell.right (⟨(addV c.p q),c.b,c.s,c.n⟩)) .z .z)))))))))) (.k (.k .z))) (X :=
 let k0:Array Value:=#[.agg (cell.cc (cell.did c d q).1),.int .i64 (cell.did c d q).2];let k1:=(.tuple #[.agg (cell.cc c),.int .i64 1]:Value) = .tuple k0;let k2:=(.tuple #[.agg (cell.cc c),.int .i64 3]:Value) = .tuple k0;let k3:Array Value:=#[.int .i64 (subV c.p q),.int .i64 c.b,.int .i64 c.s,.int .i64 c.n];let k4:Array Value:=#[.int .i64 (addV c.p q),.int .i64 c.b,.int .i64 c.s,.int .i64 c.n];let k5:=decide (q < 0);let k6 := !decide ((subE c.p q)=0);let k7 := !decide ((addE c.p q)=0);let k8:=cell.right c; ∀ g0:Nat,∀ g1:Nat,Gives Tryz.prog w [] 69 #[.agg (cell.cc c)] (.bool k8)∧(k8=true→((!decide (d=1))=true→((!decide (d=2))=true→k1)∧((!decide (d=2))=false→(k5=true→k1)∧(k5=false→(decide (d=2))=true∧Gives Tryz.prog w [] 115 #[.int .i64 c.p,.int .i64 q] (.tuple #[.int .i64 (subV c.p q),.int .i64 (subE c.p q)])∧∀ g2:Nat,(k6=true→k2)∧(k6=false→Gives Tryz.prog w [] 69 #[.agg k3] (.bool (cell.right (⟨(subV c.p q),c.b,c.s,c.n⟩)))∧((cell.right (⟨(subV c.p q),c.b,c.s,c.n⟩))=true→((.tuple #[.agg k3,.int .i64 0]:Value) = .tuple k0))∧((cell.right (⟨(subV c.p q),c.b,c.s,c.n⟩))=false→k2)))))∧((!decide (d=1))=false→(k5=true→k1)∧(k5=false→(decide (d=2))=false∧Gives Tryz.prog w [] 95 #[.int .i64 c.p,.int .i64 q] (.tuple #[.int .i64 (addV c.p q),.int .i64 (addE c.p q)])∧∀ g2:Nat,(k7=true→k2)∧(k7=false→Gives Tryz.prog w [] 69 #[.agg k4] (.bool (cell.right (⟨(addV c.p q),c.b,c.s,c.n⟩)))∧((cell.right (⟨(addV c.p q),c.b,c.s,c.n⟩))=true→((.tuple #[.agg k4,.int .i64 0]:Value) = .tuple k0))∧((cell.right (⟨(addV c.p q),c.b,c.s,c.n⟩))=false→k2)))))∧(k8=false→k1)) Tryz.func128 (by kernel_rfl)
 (fun g0=>fun g1=>⟨l_cright hc,fun h1=>⟨fun h2=>have h2:¬ d=1:=(by simpa using h2)
⟨fun h3=>have h3:¬ d=2:=(by simpa using h3)
(leaf_eq (did_bad (.inr (by omega)))),
 fun h3=>have h3:d=2:=(by simpa using h3)
⟨fun h4=>have h4:q < 0:=(by simpa using h4)
(leaf_eq (did_bad (.inr (by omega)))),
 fun h4=>have h4:¬ q < 0:=(by simpa using h4)
⟨by simp only [dq];omega,⟨n_sub (hc.1) hq,fun g2=>⟨fun h5=>have h5:¬ (subE c.p q)=0:=(by simpa using h5)
(leaf_eq (did_sn h1 (by omega) (by omega) (by omega) (.inl h5))),
 fun h5=>have h5:(subE c.p q)=0:=(by simpa using h5)
⟨l_cright ⟨(subV_in _ _),(hc.2.1),(hc.2.2.1),(hc.2.2.2)⟩,fun h6=>(leaf_eq (did_s hc h1 (by omega) (by omega) (by omega) h5 h6)),
 fun h6=>(leaf_eq (did_sn h1 (by omega) (by omega) (by omega) (.inr h6)))⟩⟩⟩⟩⟩⟩,
 fun h2=>have h2:d=1:=(by simpa using h2)
⟨fun h7=>have h7:q < 0:=(by simpa using h7)
(leaf_eq (did_bad (.inr (by omega)))),
 fun h7=>have h7:¬ q < 0:=(by simpa using h7)
⟨by simp only [dq];omega,⟨n_add (hc.1) hq,fun g2=>⟨fun h8=>have h8:¬ (addE c.p q)=0:=(by simpa using h8)
(leaf_eq (did_bn h1 (by omega) (by omega) (by omega) (.inl h8))),
 fun h8=>have h8:(addE c.p q)=0:=(by simpa using h8)
⟨l_cright ⟨(addV_in _ _),(hc.2.1),(hc.2.2.1),(hc.2.2.2)⟩,fun h9=>(leaf_eq (did_b hc h1 (by omega) (by omega) (by omega) h8 h9)),
 fun h9=>(leaf_eq (did_bn h1 (by omega) (by omega) (by omega) (.inr h9)))⟩⟩⟩⟩⟩⟩,
 fun h1=>(leaf_eq (did_bad (.inl h1)))⟩)
end Go.Proofs.YtbbjlfbemibfcaaGreat.book
