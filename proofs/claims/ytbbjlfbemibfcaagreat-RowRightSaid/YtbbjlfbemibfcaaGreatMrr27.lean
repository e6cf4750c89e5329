/-
  z1x, zke, zkf
-/
import Derived.Test.YtbbjlfbemibfcaaGreatMrr26
import Derived.Test.YtbbjlfbemibfcaaGreatMrr21
import Derived.Test.YtbbjlfbemibfcaaGreatMrr13
import Derived.Test.YtbbjlfbemibfcaaGreatMrr14
set_option linter.unusedVariables false
set_option linter.unusedSimpArgs false
section
namespace Go.Proofs.YtbbjlfbemibfcaaGreat.book
open Go.RowKit Go.Proofs.YtbbjlfbemibfcaaGreat
open Go.Proofs.YtbbjlfbemibfcaaGreat.order (Or open_ worth oz)
open Go.Proofs.YtbbjlfbemibfcaaGreat.cell (Ce Ex)
set_option maxRecDepth 20000
theorem qvm {c:Ce} : cell.right c=decide ((cell.Ba c).2=0):=by
 unfold cell.Ba
 cases h:cell.right c<;>simp
section
variable {c:Ce}
theorem qs5 (h:c.b < 0∨c.s < 0∨c.n < 0):cell.Ba c=(xz,1):=if_neg (fun e=>by have:=cell.dh.1 e;unfold cell.aj at this;omega)
theorem q8h (h:¬ oh c.p c.b=0):cell.Ba c=(xz,1):=if_neg (fun e=>h (Nz.2 (by have:=cell.dh.1 e;unfold cell.aj at this;unfold jq;omega)))
theorem q8i (h:¬ pq c.s c.p=0):cell.Ba c=(xz,1):=if_neg (fun e=>h (P8.2 (by have:=cell.dh.1 e;unfold cell.aj at this;unfold jq;omega)))
theorem q8j (h:0≤c.b∧0≤c.s∧0≤c.n) (h1:oh c.p c.b=0) (h2:pq c.s c.p=0):cell.Ba c=(⟨mg c.p c.b,su c.s c.p,c.n⟩,0):=by
 have h3:=Nz.1 h1
 have h4:=P8.1 h2
 unfold mg su
 rw [if_pos h3,if_pos h4]
 unfold jq at h3 h4
 exact if_pos (cell.dh.2 (by unfold cell.aj;omega))
end
theorem zdq (c:Ce)  (hc:c.fine) (w:World):Calls Tryz.prog 93 #[.agg (cell.cc c)] w fun e w'=>e = .returned (.tuple #[.agg (cell.xc (cell.Ba c).1),.int .i64 (cell.Ba c).2])∧Below w.heap.size w w' :=
 uw (fn:=Tryz.f93) (r:=.tuple #[.agg (cell.xc (cell.Ba c).1),.int .i64 (cell.Ba c).2]) (t:=.s (.k (.k .z)) (.k (.s (.k .z) (.k (.s .z (.c (.tuple #[.int .i64 (mg c.p c.b),.int .i64 (oh c.p c.b)]) (.s .z (.c (.tuple #[.int .i64 (su c.s c.p),.int .i64 (pq c.s c.p)]) (.s .z .z))))))))) (X :=
 let k1:Array Value:=#[.agg (cell.xc (cell.Ba c).1),.int .i64 (cell.Ba c).2];let k0:=(.tuple #[.agg (cell.xc xz),.int .i64 1]:Value) = .tuple k1;let k2 := !decide ((oh c.p c.b)=0);let k3 := !decide ((pq c.s c.p)=0); ∀ g0:Nat,∀ g1:Nat,((decide (c.b < 0))=true→k0)∧((decide (c.b < 0))=false→((decide (c.s < 0))=true→k0)∧((decide (c.s < 0))=false→((decide (c.n < 0))=true→k0)∧((decide (c.n < 0))=false→iq Tryz.prog w [] 95 #[.int .i64 c.p,.int .i64 c.b] (.tuple #[.int .i64 (mg c.p c.b),.int .i64 (oh c.p c.b)])∧(k2=true→k0)∧(k2=false→iq Tryz.prog w [] 115 #[.int .i64 c.s,.int .i64 c.p] (.tuple #[.int .i64 (su c.s c.p),.int .i64 (pq c.s c.p)])∧(k3=true→k0)∧(k3=false→((.tuple #[.agg #[.int .i64 (mg c.p c.b),.int .i64 (su c.s c.p),.int .i64 c.n],.int .i64 0]:Value) = .tuple k1))))))) Tryz.func93 (by kernel_rfl)
 (fun g0=>fun g1=>⟨fun h1=>have h1:c.b < 0:=(by simpa using h1)
(by rw [qs5 (by omega)]<;>rfl),
 fun h1=>have h1:¬ c.b < 0:=(by simpa using h1)
⟨fun h2=>have h2:c.s < 0:=(by simpa using h2)
(by rw [qs5 (by omega)]<;>rfl),
 fun h2=>have h2:¬ c.s < 0:=(by simpa using h2)
⟨fun h3=>have h3:c.n < 0:=(by simpa using h3)
(by rw [qs5 (by omega)]<;>rfl),
 fun h3=>have h3:¬ c.n < 0:=(by simpa using h3)
⟨Rn hc.1 hc.2.1,⟨fun h4=>have h4:¬ (oh c.p c.b)=0:=(by simpa using h4)
(by rw [q8h h4]<;>rfl),
 fun h4=>have h4:(oh c.p c.b)=0:=(by simpa using h4)
⟨Ut hc.2.2.1 hc.1,⟨fun h5=>have h5:¬ (pq c.s c.p)=0:=(by simpa using h5)
(by rw [q8i h5]<;>rfl),
 fun h5=>have h5:(pq c.s c.p)=0:=(by simpa using h5)
(by rw [q8j (by omega) h4 h5]<;>rfl)⟩⟩⟩⟩⟩⟩⟩)
theorem q2p (c:Ce)  (hc:c.fine) (w:World):Calls Tryz.prog 69 #[.agg (cell.cc c)] w fun e w'=>e = .returned (.bool (cell.right c))∧Below w.heap.size w w' :=
 uw (fn:=Tryz.f69) (r:=.bool (cell.right c)) (t:=.c (.tuple #[.agg #[.int .i64 (((cell.Ba c).1).l),.int .i64 (((cell.Ba c).1).s),.int .i64 (((cell.Ba c).1).n)],.int .i64 ((cell.Ba c).2)]) (.s .z .z)) (X :=
 let k0:=decide (((cell.Ba c).2)=0);let k1:=(cell.Ba c).1; ∀ g0:Nat,iq Tryz.prog w [] 93 #[.agg (cell.cc c)] (.tuple #[.agg #[.int .i64 (k1.l),.int .i64 (k1.s),.int .i64 (k1.n)],.int .i64 ((cell.Ba c).2)])∧∀ g1:Nat,(k0=true→((.bool true:Value) = .bool (cell.right c)))∧(k0=false→((.bool false:Value) = .bool (cell.right c)))) Tryz.func69 (by kernel_rfl)
 (fun g0=>⟨gives (zdq c hc),fun g1=>⟨fun h1=>have h1:((cell.Ba c).2)=0:=(by simpa using h1)
(by rw [qvm];simp [h1]),
 fun h1=>have h1:¬ ((cell.Ba c).2)=0:=(by simpa using h1)
(by rw [qvm];simp [h1])⟩⟩)
theorem q2q (l:Ex)  (w:World):Calls Tryz.prog 47 #[.agg (cell.xc l)] w fun e w'=>e = .returned (.bool (limit.right l))∧Below w.heap.size w w' :=
 uw (fn:=Tryz.f47) (r:=.bool (limit.right l)) (t:=.s (.k (.s (.k (.s .z .z)) (.k .z))) (.k (.k .z))) (X :=
 let k0:=(.bool false:Value) = .bool (limit.right l); ∀ g0:Nat,((decide (l.l ≥ 0))=true→((decide (l.s ≥ 0))=true→((decide (l.n ≥ 0))=true→((.bool true:Value) = .bool (limit.right l)))∧((decide (l.n ≥ 0))=false→k0))∧((decide (l.s ≥ 0))=false→k0))∧((decide (l.l ≥ 0))=false→k0)) Tryz.func47 (by kernel_rfl)
 (fun g0=>⟨fun h1=>have h1:¬ l.l < 0:=(by simpa using h1)
⟨fun h2=>have h2:¬ l.s < 0:=(by simpa using h2)
⟨fun h3=>have h3:¬ l.n < 0:=(by simpa using h3)
(vt (by omega)),
 fun h3=>have h3:l.n < 0:=(by simpa using h3)
(vf (by omega))⟩,
 fun h2=>have h2:l.s < 0:=(by simpa using h2)
(vf (by omega))⟩,
 fun h1=>have h1:l.l < 0:=(by simpa using h1)
(vf (by omega))⟩)
theorem qry (a b c:Int)  (w:World):Calls Tryz.prog 126 #[.int .i64 a,.int .i64 b,.int .i64 c] w fun e w'=>e = .returned (.bool (limit.cap a b c))∧Below w.heap.size w w' :=
 uw (fn:=Tryz.f126) (r:=.bool (limit.cap a b c)) (t:=.s (.k (.s .z .z)) (.k .z)) (X :=
 let k0:=(.bool false:Value) = .bool (limit.cap a b c);((decide (b > a))=true→((decide (b > c))=true→((.bool true:Value) = .bool (limit.cap a b c)))∧((decide (b > c))=false→k0))∧((decide (b > a))=false→k0)) Tryz.func126 (by kernel_rfl)
 (⟨fun h1=>have h1:a < b:=(by simpa using h1)
⟨fun h2=>have h2:c < b:=(by simpa using h2)
(vt (by omega)),
 fun h2=>have h2:¬ c < b:=(by simpa using h2)
(vf (by omega))⟩,
 fun h1=>have h1:¬ a < b:=(by simpa using h1)
(vf (by omega))⟩)
theorem qzs (x y l:Ex)  (w:World):Calls Tryz.prog 125 #[.agg (cell.xc x),.agg (cell.xc y),.agg (cell.xc l)] w fun e w'=>e = .returned (.bool (limit.against x y l))∧Below w.heap.size w w' :=
 uw (fn:=Tryz.f125) (r:=.bool (limit.against x y l)) (t:=.cs (limit.cap x.l y.l l.l) (.k (.k .z)) (.k (.cs (limit.cap x.s y.s l.s) (.k .z) (.k (.cs (limit.cap x.n y.n l.n) .z .z))))) (X :=
 let k0:=(.bool true:Value) = .bool (limit.against x y l);let k1:=limit.cap x.l y.l l.l;let k2:=limit.cap x.s y.s l.s;let k3:=limit.cap x.n y.n l.n; ∀ g0:Nat,∀ g1:Nat,∀ g2:Nat,iq Tryz.prog w [] 126 #[.int .i64 x.l,.int .i64 y.l,.int .i64 l.l] (.bool k1)∧(k1=true→k0)∧(k1=false→iq Tryz.prog w [] 126 #[.int .i64 x.s,.int .i64 y.s,.int .i64 l.s] (.bool k2)∧(k2=true→k0)∧(k2=false→iq Tryz.prog w [] 126 #[.int .i64 x.n,.int .i64 y.n,.int .i64 l.n] (.bool k3)∧(k3=true→k0)∧(k3=false→((.bool false:Value) = .bool (limit.against x y l)))))) Tryz.func125 (by kernel_rfl)
 (fun g0=>fun g1=>fun g2=>⟨gives (qry x.l y.l l.l),fun h1=>(by unfold limit.against;simp [h1]),
 fun h1=>⟨gives (qry x.s y.s l.s),fun h2=>(by unfold limit.against;simp [h1,h2]),
 fun h2=>⟨gives (qry x.n y.n l.n),fun h3=>(by unfold limit.against;simp [h1,h2,h3]),
 fun h3=>(by unfold limit.against;simp [h1,h2,h3])⟩⟩⟩)
section
variable {w0:World} {D:List Fact}
theorem Oy {c:Ce} (hf:c.fine):iq Tryz.prog w0 D 69 #[.agg (cell.cc c)] (.bool (cell.right c)):=gives (q2p c hf)
theorem qn6 {o:Or} (hf:o.fine):iq Tryz.prog w0 D 67 #[.agg (order.oc o)] (.bool (order.right o)):=gives (qhx o)
theorem qvn {o:Or} (hf:o.fine):iq Tryz.prog w0 D 116 #[.agg (order.oc o)] (.tuple #[.int .i64 (worth o).1,.int .i64 (worth o).2]):=gives (q5x o hf)
theorem Xq {o:Or} (hf:o.fine):iq Tryz.prog w0 D 117 #[.agg (order.oc o)] (.int .i64 (open_ o)):=gives (q8g o hf)
end
end Go.Proofs.YtbbjlfbemibfcaaGreat.book
end
section
namespace Go.Proofs.YtbbjlfbemibfcaaGreat.book
open Go.RowKit Go.Proofs.YtbbjlfbemibfcaaGreat
open Go.Proofs.YtbbjlfbemibfcaaGreat.order (Or open_ worth)
open Go.Proofs.YtbbjlfbemibfcaaGreat.cell (Ce Ex)
open Go.Proofs.YtbbjlfbemibfcaaGreat.rec (Rc)
set_option maxRecDepth 20000
variable {w0:World} {D:List Fact}
theorem Uu {a b:Int} (h:oh a b=0):mg a b=a+b:=by unfold mg;rw [if_pos (Nz.1 h)]
theorem Uw {a b:Int} (h:pq a b=0):su a b=a - b:=by unfold su;rw [if_pos (P8.1 h)]
theorem Aw {x y:Ce × Int} (h:x=y):(.tuple #[.agg (cell.cc y.1),.int .i64 y.2]:Value) = .tuple #[.agg (cell.cc x.1),.int .i64 x.2]:=by rw [h]
theorem Nc {o:Or} (h:order.right o=true) (hd:¬ o.d=2):o.d=1:=by have:=order.dh.1 h;unfold order.aj at this;omega
theorem qo7 {c:Ce} {o:Or} (h:cell.right c=false∨order.right o=false):cell.come c o=(c,1):=by unfold cell.come;rw [if_pos h]
theorem qxt {c:Ce} {o:Or} (h1:cell.right c=true) (h2:order.right o=true) (h:¬ (worth o).2=0):cell.come c o=(c,3):=by unfold cell.come;rw [if_neg (by simp [h1,h2]),if_pos h]
theorem qo8 {c:Ce} {o:Or} (hc:c.fine) (h1:cell.right c=true) (h2:order.right o=true) (h:(worth o).2=0) (hd:o.d=2) (h3:oh c.s (open_ o)=0) (h4:oh c.n (worth o).1=0) (h5:cell.right ⟨c.p,c.b,mg c.s (open_ o),mg c.n (worth o).1⟩=true):cell.come c o=(⟨c.p,c.b,mg c.s (open_ o),mg c.n (worth o).1⟩,0):=by
 unfold cell.come
 rw [if_neg (by simp [h1,h2]),if_neg (by simp [h])]
 rw [Uu h3,Uu h4] at *
 have e:cell.turned c o.d (open_ o) ((worth o).1)=⟨c.p,c.b,c.s+open_ o,c.n+(worth o).1⟩:=by unfold cell.turned;rw [if_neg (by omega)]<;>simp [Int.sub_eq_add_neg]
 rw [e]
 exact cell.Rj.2 ⟨rfl,⟨hc.1,hc.2.1,Nz.1 h3,Nz.1 h4⟩,cell.dh.1 h5⟩
theorem qo9 {c:Ce} {o:Or} (hc:c.fine) (h1:cell.right c=true) (h2:order.right o=true) (h:(worth o).2=0) (hd:o.d=1) (h3:oh c.b (open_ o)=0) (h4:oh c.n (worth o).1=0) (h5:cell.right ⟨c.p,mg c.b (open_ o),c.s,mg c.n (worth o).1⟩=true):cell.come c o=(⟨c.p,mg c.b (open_ o),c.s,mg c.n (worth o).1⟩,0):=by
 unfold cell.come
 rw [if_neg (by simp [h1,h2]),if_neg (by simp [h])]
 rw [Uu h3,Uu h4] at *
 have e:cell.turned c o.d (open_ o) ((worth o).1)=⟨c.p,c.b+open_ o,c.s,c.n+(worth o).1⟩:=by unfold cell.turned;rw [if_pos (by omega)]<;>simp [Int.sub_eq_add_neg]
 rw [e]
 exact cell.Rj.2 ⟨rfl,⟨hc.1,Nz.1 h3,hc.2.2.1,Nz.1 h4⟩,cell.dh.1 h5⟩
theorem qgm {c:Ce} {o:Or} (h1:cell.right c=true) (h2:order.right o=true) (h:(worth o).2=0) (hd:o.d=2) (hb:¬ oh c.s (open_ o)=0∨¬ oh c.n (worth o).1=0∨cell.right ⟨c.p,c.b,mg c.s (open_ o),mg c.n (worth o).1⟩=false):cell.come c o=(c,3):=by
 unfold cell.come
 rw [if_neg (by simp [h1,h2]),if_neg (by simp [h])]
 have e:cell.turned c o.d (open_ o) ((worth o).1)=⟨c.p,c.b,c.s+open_ o,c.n+(worth o).1⟩:=by unfold cell.turned;rw [if_neg (by omega)]<;>simp [Int.sub_eq_add_neg]
 rw [e]
 unfold cell.good
 rw [if_neg]
 rintro ⟨hf,hr⟩
 have h3:oh c.s (open_ o)=0:=Nz.2 hf.2.2.1
 have h4:oh c.n (worth o).1=0:=Nz.2 hf.2.2.2
 rw [Uu h3,Uu h4] at hb
 rcases hb with hb | hb | hb
 ·exact hb h3
 ·exact hb h4
 ·rw [cell.dh.2 hr] at hb;cases hb
theorem qgn {c:Ce} {o:Or} (h1:cell.right c=true) (h2:order.right o=true) (h:(worth o).2=0) (hd:o.d=1) (hb:¬ oh c.b (open_ o)=0∨¬ oh c.n (worth o).1=0∨cell.right ⟨c.p,mg c.b (open_ o),c.s,mg c.n (worth o).1⟩=false):cell.come c o=(c,3):=by
 unfold cell.come
 rw [if_neg (by simp [h1,h2]),if_neg (by simp [h])]
 have e:cell.turned c o.d (open_ o) ((worth o).1)=⟨c.p,c.b+open_ o,c.s,c.n+(worth o).1⟩:=by unfold cell.turned;rw [if_pos (by omega)]<;>simp [Int.sub_eq_add_neg]
 rw [e]
 unfold cell.good
 rw [if_neg]
 rintro ⟨hf,hr⟩
 have h3:oh c.b (open_ o)=0:=Nz.2 hf.2.1
 have h4:oh c.n (worth o).1=0:=Nz.2 hf.2.2.2
 rw [Uu h3,Uu h4] at hb
 rcases hb with hb | hb | hb
 ·exact hb h3
 ·exact hb h4
 ·rw [cell.dh.2 hr] at hb;cases hb
theorem qs6 {c:Ce} {o:Or} (h:cell.right c=false∨order.right o=false):cell.go c o=(c,1):=by unfold cell.go;rw [if_pos h]
theorem q2r {c:Ce} {o:Or} (h1:cell.right c=true) (h2:order.right o=true) (h:¬ (worth o).2=0):cell.go c o=(c,3):=by unfold cell.go;rw [if_neg (by simp [h1,h2]),if_pos h]
theorem qs7 {c:Ce} {o:Or} (hc:c.fine) (h1:cell.right c=true) (h2:order.right o=true) (h:(worth o).2=0) (hd:o.d=2) (h3:pq c.s (open_ o)=0) (h4:pq c.n (worth o).1=0) (h5:cell.right ⟨c.p,c.b,su c.s (open_ o),su c.n (worth o).1⟩=true):cell.go c o=(⟨c.p,c.b,su c.s (open_ o),su c.n (worth o).1⟩,0):=by
 unfold cell.go
 rw [if_neg (by simp [h1,h2]),if_neg (by simp [h])]
 rw [Uw h3,Uw h4] at *
 have e:cell.turned c o.d (-(open_ o)) (-(worth o).1)=⟨c.p,c.b,c.s - open_ o,c.n - (worth o).1⟩:=by unfold cell.turned;rw [if_neg (by omega)]<;>simp [Int.sub_eq_add_neg]
 rw [e]
 exact cell.Rj.2 ⟨rfl,⟨hc.1,hc.2.1,P8.1 h3,P8.1 h4⟩,cell.dh.1 h5⟩
theorem qs8 {c:Ce} {o:Or} (hc:c.fine) (h1:cell.right c=true) (h2:order.right o=true) (h:(worth o).2=0) (hd:o.d=1) (h3:pq c.b (open_ o)=0) (h4:pq c.n (worth o).1=0) (h5:cell.right ⟨c.p,su c.b (open_ o),c.s,su c.n (worth o).1⟩=true):cell.go c o=(⟨c.p,su c.b (open_ o),c.s,su c.n (worth o).1⟩,0):=by
 unfold cell.go
 rw [if_neg (by simp [h1,h2]),if_neg (by simp [h])]
 rw [Uw h3,Uw h4] at *
 have e:cell.turned c o.d (-(open_ o)) (-(worth o).1)=⟨c.p,c.b - open_ o,c.s,c.n - (worth o).1⟩:=by unfold cell.turned;rw [if_pos (by omega)]<;>simp [Int.sub_eq_add_neg]
 rw [e]
 exact cell.Rj.2 ⟨rfl,⟨hc.1,P8.1 h3,hc.2.2.1,P8.1 h4⟩,cell.dh.1 h5⟩
theorem qhy {c:Ce} {o:Or} (h1:cell.right c=true) (h2:order.right o=true) (h:(worth o).2=0) (hd:o.d=2) (hb:¬ pq c.s (open_ o)=0∨¬ pq c.n (worth o).1=0∨cell.right ⟨c.p,c.b,su c.s (open_ o),su c.n (worth o).1⟩=false):cell.go c o=(c,3):=by
 unfold cell.go
 rw [if_neg (by simp [h1,h2]),if_neg (by simp [h])]
 have e:cell.turned c o.d (-(open_ o)) (-(worth o).1)=⟨c.p,c.b,c.s - open_ o,c.n - (worth o).1⟩:=by unfold cell.turned;rw [if_neg (by omega)]<;>simp [Int.sub_eq_add_neg]
 rw [e]
 unfold cell.good
 rw [if_neg]
 rintro ⟨hf,hr⟩
 have h3:pq c.s (open_ o)=0:=P8.2 hf.2.2.1
 have h4:pq c.n (worth o).1=0:=P8.2 hf.2.2.2
 rw [Uw h3,Uw h4] at hb
 rcases hb with hb | hb | hb
 ·exact hb h3
 ·exact hb h4
 ·rw [cell.dh.2 hr] at hb;cases hb
theorem qhz {c:Ce} {o:Or} (h1:cell.right c=true) (h2:order.right o=true) (h:(worth o).2=0) (hd:o.d=1) (hb:¬ pq c.b (open_ o)=0∨¬ pq c.n (worth o).1=0∨cell.right ⟨c.p,su c.b (open_ o),c.s,su c.n (worth o).1⟩=false):cell.go c o=(c,3):=by
 unfold cell.go
 rw [if_neg (by simp [h1,h2]),if_neg (by simp [h])]
 have e:cell.turned c o.d (-(open_ o)) (-(worth o).1)=⟨c.p,c.b - open_ o,c.s,c.n - (worth o).1⟩:=by unfold cell.turned;rw [if_pos (by omega)]<;>simp [Int.sub_eq_add_neg]
 rw [e]
 unfold cell.good
 rw [if_neg]
 rintro ⟨hf,hr⟩
 have h3:pq c.b (open_ o)=0:=P8.2 hf.2.1
 have h4:pq c.n (worth o).1=0:=P8.2 hf.2.2.2
 rw [Uw h3,Uw h4] at hb
 rcases hb with hb | hb | hb
 ·exact hb h3
 ·exact hb h4
 ·rw [cell.dh.2 hr] at hb;cases hb
theorem qm2 {c:Ce} {d q:Int} (h:cell.right c=false∨(d < 1∨2 < d∨q < 0)):cell.did c d q=(c,1):=by unfold cell.did;rw [if_pos h]
theorem q90 {c:Ce} {d q:Int} (hc:c.fine) (h:cell.right c=true) (h1:¬ (d < 1∨2 < d)) (h2:¬ q < 0) (hd:d=2) (h3:pq c.p q=0) (h4:cell.right ⟨su c.p q,c.b,c.s,c.n⟩=true):cell.did c d q=(⟨su c.p q,c.b,c.s,c.n⟩,0):=by
 unfold cell.did cell.moved
 rw [if_neg (by simp only [h];simp;omega),if_pos hd]
 rw [Uw h3] at *
 exact cell.Rj.2 ⟨rfl,⟨P8.1 h3,hc.2⟩,cell.dh.1 h4⟩
theorem qzt {c:Ce} {d q:Int} (h:cell.right c=true) (h1:¬ (d < 1∨2 < d)) (h2:¬ q < 0) (hd:d=2) (h3:¬ pq c.p q=0∨cell.right ⟨su c.p q,c.b,c.s,c.n⟩=false):cell.did c d q=(c,3):=by
 unfold cell.did cell.moved
 rw [if_neg (by simp only [h];simp;omega),if_pos hd]
 unfold cell.good
 rw [if_neg]
 rintro ⟨hf,hr⟩
 have h5:pq c.p q=0:=P8.2 hf.1
 rw [Uw h5,cell.dh.2 hr] at h3
 simp [h5] at h3
theorem q91 {c:Ce} {d q:Int} (hc:c.fine) (h:cell.right c=true) (h1:¬ (d < 1∨2 < d)) (h2:¬ q < 0) (hd:¬ d=2) (h3:oh c.p q=0) (h4:cell.right ⟨mg c.p q,c.b,c.s,c.n⟩=true):cell.did c d q=(⟨mg c.p q,c.b,c.s,c.n⟩,0):=by
 unfold cell.did cell.moved
 rw [if_neg (by simp only [h];simp;omega),if_neg hd]
 rw [Uu h3] at *
 exact cell.Rj.2 ⟨rfl,⟨Nz.1 h3,hc.2⟩,cell.dh.1 h4⟩
theorem qzu {c:Ce} {d q:Int} (h:cell.right c=true) (h1:¬ (d < 1∨2 < d)) (h2:¬ q < 0) (hd:¬ d=2) (h3:¬ oh c.p q=0∨cell.right ⟨mg c.p q,c.b,c.s,c.n⟩=false):cell.did c d q=(c,3):=by
 unfold cell.did cell.moved
 rw [if_neg (by simp only [h];simp;omega),if_neg hd]
 unfold cell.good
 rw [if_neg]
 rintro ⟨hf,hr⟩
 have h5:oh c.p q=0:=Nz.2 hf.1
 rw [Uu h5,cell.dh.2 hr] at h3
 simp [h5] at h3
theorem qxu (c:Ce) (o:Or) (hc:c.fine) (ho:o.fine) (w:World):Calls Tryz.prog 94 #[.agg (cell.cc c),.agg (order.oc o),.func (.func 95) #[] #[]] w fun e w'=>e = .returned (.tuple #[.agg (cell.cc (cell.come c o).1),.int .i64 (cell.come c o).2])∧Below w.heap.size w w' :=
 uw (fn:=Tryz.f94) (r:=.tuple #[.agg (cell.cc (cell.come c o).1),.int .i64 (cell.come c o).2]) (t:=let k1:=mg c.n ((worth o).1);let k0:Value:=.tuple #[.int .i64 k1,.int .i64 (oh c.n ((worth o).1))];let k5:=mg c.s (open_ o);let k2:Value:=.tuple #[.int .i64 k5,.int .i64 (oh c.s (open_ o))];let k6:=mg c.b (open_ o);let k3:Value:=.tuple #[.int .i64 k6,.int .i64 (oh c.b (open_ o))];let k4:Value:=.int .i64 (open_ o); .cs (cell.right c) (.k (.cs (order.right o) (.c (.tuple #[.int .i64 ((worth o).1),.int .i64 ((worth o).2)]) (.s .z (.s (.o [3] (.two (.c k4 (.c k2 (.c k0 (.s (.k (.k .z)) (.k (.s (.k .z) (.k (.cs (cell.right (⟨c.p,c.b,k5,k1⟩)) .z .z)))))))) (.c k4 (.c k2 (.c k0 (.s (.k (.k .z)) (.k (.s (.k .z) (.k (.cs (cell.right (⟨c.p,c.b,k5,k1⟩)) .z .z)))))))))) (.o [3] (.two (.c k4 (.c k3 (.c k0 (.s (.k (.k .z)) (.k (.s (.k .z) (.k (.cs (cell.right (⟨c.p,k6,c.s,k1⟩)) .z .z)))))))) (.c k4 (.c k3 (.c k0 (.s (.k (.k .z)) (.k (.s (.k .z) (.k (.cs (cell.right (⟨c.p,k6,c.s,k1⟩)) .z .z))))))))))))) .z)) (.k .z)) (X :=
 let k2:Array Value:=#[.agg (cell.cc (cell.come c o).1),.int .i64 (cell.come c o).2];let k0:=(.tuple #[.agg (cell.cc c),.int .i64 3]:Value) = .tuple k2;let k1:=mg c.n ((worth o).1);let k3 := !decide ((oh c.n ((worth o).1))=0);let k7:=mg c.s (open_ o);let k4:Array Value:=#[.int .i64 c.p,.int .i64 c.b,.int .i64 k7,.int .i64 k1];let k8:=mg c.b (open_ o);let k5:Array Value:=#[.int .i64 c.p,.int .i64 k8,.int .i64 c.s,.int .i64 k1];let k6:Value:=.tuple #[.int .i64 k1,.int .i64 (oh c.n ((worth o).1))];let k9:Array Value:=#[.int .i64 c.n,.int .i64 ((worth o).1)];let k10 := !decide ((oh c.s (open_ o))=0);let k11 := !decide ((oh c.b (open_ o))=0);let k12:Array Value:=#[.agg (order.oc o)];let k13:=(.tuple #[.agg (cell.cc c),.int .i64 1]:Value) = .tuple k2;let k14:=(.tuple #[.agg k4,.int .i64 0]:Value) = .tuple k2;let k15:=(.tuple #[.agg k5,.int .i64 0]:Value) = .tuple k2;let k16:Value:=.int .i64 (open_ o);let k17:Value:=.tuple #[.int .i64 k7,.int .i64 (oh c.s (open_ o))];let k18:Value:=.tuple #[.int .i64 k8,.int .i64 (oh c.b (open_ o))];let k19:Value:=.bool (cell.right (⟨c.p,c.b,k7,k1⟩));let k20:Value:=.bool (cell.right (⟨c.p,k8,c.s,k1⟩));let k21 := !decide (((worth o).2)=0);let k22:=order.right o; ∀ g0:Nat,∀ g1:Nat,∀ g2:Nat,iq Tryz.prog w [] 69 #[.agg (cell.cc c)] (.bool (cell.right c))∧((cell.right c)=true→iq Tryz.prog w [] 67 k12 (.bool k22)∧(k22=true→iq Tryz.prog w [] 116 k12 (.tuple #[.int .i64 ((worth o).1),.int .i64 ((worth o).2)])∧(k21=true→k0)∧(k21=false→∀ g3:Nat,((decide (o.d=2))=true→(iq Tryz.prog w [] 117 k12 k16∧iq Tryz.prog w [] 95 #[.int .i64 c.s,.int .i64 (open_ o)] k17∧iq Tryz.prog w [] 95 k9 k6∧(k10=true→k0)∧(k10=false→(k3=true→k0)∧(k3=false→iq Tryz.prog w [] 69 #[.agg k4] k19∧((cell.right (⟨c.p,c.b,k7,k1⟩))=true→k14)∧((cell.right (⟨c.p,c.b,k7,k1⟩))=false→k0))))∧(iq Tryz.prog w [] 117 k12 k16∧iq Tryz.prog w [] 95 #[.int .i64 c.s,.int .i64 (open_ o)] k17∧iq Tryz.prog w [] 95 k9 k6∧(k10=true→k0)∧(k10=false→(k3=true→k0)∧(k3=false→iq Tryz.prog w [] 69 #[.agg k4] k19∧((cell.right (⟨c.p,c.b,k7,k1⟩))=true→k14)∧((cell.right (⟨c.p,c.b,k7,k1⟩))=false→k0)))))∧((decide (o.d=2))=false→(iq Tryz.prog w [] 117 k12 k16∧iq Tryz.prog w [] 95 #[.int .i64 c.b,.int .i64 (open_ o)] k18∧iq Tryz.prog w [] 95 k9 k6∧(k11=true→k0)∧(k11=false→(k3=true→k0)∧(k3=false→iq Tryz.prog w [] 69 #[.agg k5] k20∧((cell.right (⟨c.p,k8,c.s,k1⟩))=true→k15)∧((cell.right (⟨c.p,k8,c.s,k1⟩))=false→k0))))∧(iq Tryz.prog w [] 117 k12 k16∧iq Tryz.prog w [] 95 #[.int .i64 c.b,.int .i64 (open_ o)] k18∧iq Tryz.prog w [] 95 k9 k6∧(k11=true→k0)∧(k11=false→(k3=true→k0)∧(k3=false→iq Tryz.prog w [] 69 #[.agg k5] k20∧((cell.right (⟨c.p,k8,c.s,k1⟩))=true→k15)∧((cell.right (⟨c.p,k8,c.s,k1⟩))=false→k0)))))))∧(k22=false→k13))∧((cell.right c)=false→k13)) Tryz.func94 (by kernel_rfl)
 (fun g0=>fun g1=>fun g2=>⟨Oy hc,fun h1=>⟨qn6 ho,fun h2=>⟨qvn ho,⟨fun h3=>have h3:¬ ((worth o).2)=0:=(by simpa using h3)
(Aw (qxt h1 h2 h3)),
 fun h3=>have h3:((worth o).2)=0:=(by simpa using h3)
 fun g3=>⟨fun h4=>have h4:o.d=2:=(by simpa using h4)
⟨⟨Xq ho,⟨Rn (hc.2.2.1) (cell.Nb ho),⟨Rn (hc.2.2.2) (cell.Um o),⟨fun h5=>have h5:¬ (oh c.s (open_ o))=0:=(by simpa using h5)
(Aw (qgm h1 h2 h3 h4 (.inl h5))),
 fun h5=>have h5:(oh c.s (open_ o))=0:=(by simpa using h5)
⟨fun h6=>have h6:¬ (oh c.n ((worth o).1))=0:=(by simpa using h6)
(Aw (qgm h1 h2 h3 h4 (.inr (.inl h6)))),
 fun h6=>have h6:(oh c.n ((worth o).1))=0:=(by simpa using h6)
⟨Oy ⟨(hc.1),(hc.2.1),(Lj _ _),(Lj _ _)⟩,fun h7=>(Aw (qo8 hc h1 h2 h3 h4 h5 h6 h7)),
 fun h7=>(Aw (qgm h1 h2 h3 h4 (.inr (.inr h7))))⟩⟩⟩⟩⟩⟩,
⟨Xq ho,⟨Rn (hc.2.2.1) (cell.Nb ho),⟨Rn (hc.2.2.2) (cell.Um o),⟨fun h8=>have h8:¬ (oh c.s (open_ o))=0:=(by simpa using h8)
(Aw (qgm h1 h2 h3 h4 (.inl h8))),
 fun h8=>have h8:(oh c.s (open_ o))=0:=(by simpa using h8)
⟨fun h9=>have h9:¬ (oh c.n ((worth o).1))=0:=(by simpa using h9)
(Aw (qgm h1 h2 h3 h4 (.inr (.inl h9)))),
 fun h9=>have h9:(oh c.n ((worth o).1))=0:=(by simpa using h9)
⟨Oy ⟨(hc.1),(hc.2.1),(Lj _ _),(Lj _ _)⟩,fun h10=>(Aw (qo8 hc h1 h2 h3 h4 h8 h9 h10)),
 fun h10=>(Aw (qgm h1 h2 h3 h4 (.inr (.inr h10))))⟩⟩⟩⟩⟩⟩⟩,
 fun h4=>have h4:¬ o.d=2:=(by simpa using h4)
⟨⟨Xq ho,⟨Rn (hc.2.1) (cell.Nb ho),⟨Rn (hc.2.2.2) (cell.Um o),⟨fun h11=>have h11:¬ (oh c.b (open_ o))=0:=(by simpa using h11)
(Aw (qgn h1 h2 h3 (Nc h2 h4) (.inl h11))),
 fun h11=>have h11:(oh c.b (open_ o))=0:=(by simpa using h11)
⟨fun h12=>have h12:¬ (oh c.n ((worth o).1))=0:=(by simpa using h12)
(Aw (qgn h1 h2 h3 (Nc h2 h4) (.inr (.inl h12)))),
 fun h12=>have h12:(oh c.n ((worth o).1))=0:=(by simpa using h12)
⟨Oy ⟨(hc.1),(Lj _ _),(hc.2.2.1),(Lj _ _)⟩,fun h13=>(Aw (qo9 hc h1 h2 h3 (Nc h2 h4) h11 h12 h13)),
 fun h13=>(Aw (qgn h1 h2 h3 (Nc h2 h4) (.inr (.inr h13))))⟩⟩⟩⟩⟩⟩,
⟨Xq ho,⟨Rn (hc.2.1) (cell.Nb ho),⟨Rn (hc.2.2.2) (cell.Um o),⟨fun uy=>have uy:¬ (oh c.b (open_ o))=0:=(by simpa using uy)
(Aw (qgn h1 h2 h3 (Nc h2 h4) (.inl uy))),
 fun uy=>have uy:(oh c.b (open_ o))=0:=(by simpa using uy)
⟨fun h15=>have h15:¬ (oh c.n ((worth o).1))=0:=(by simpa using h15)
(Aw (qgn h1 h2 h3 (Nc h2 h4) (.inr (.inl h15)))),
 fun h15=>have h15:(oh c.n ((worth o).1))=0:=(by simpa using h15)
⟨Oy ⟨(hc.1),(Lj _ _),(hc.2.2.1),(Lj _ _)⟩,fun h16=>(Aw (qo9 hc h1 h2 h3 (Nc h2 h4) uy h15 h16)),
 fun h16=>(Aw (qgn h1 h2 h3 (Nc h2 h4) (.inr (.inr h16))))⟩⟩⟩⟩⟩⟩⟩⟩⟩⟩,
 fun h2=>(Aw (qo7 (.inr h2)))⟩,
 fun h1=>(Aw (qo7 (.inl h1)))⟩)
theorem q2s (c:Ce) (o:Or) (hc:c.fine) (ho:o.fine) (w:World):Calls Tryz.prog 94 #[.agg (cell.cc c),.agg (order.oc o),.func (.func 115) #[] #[]] w fun e w'=>e = .returned (.tuple #[.agg (cell.cc (cell.go c o).1),.int .i64 (cell.go c o).2])∧Below w.heap.size w w' :=
 uw (fn:=Tryz.f94) (r:=.tuple #[.agg (cell.cc (cell.go c o).1),.int .i64 (cell.go c o).2]) (t:=let k1:=su c.n ((worth o).1);let k0:Value:=.tuple #[.int .i64 k1,.int .i64 (pq c.n ((worth o).1))];let k5:=su c.s (open_ o);let k2:Value:=.tuple #[.int .i64 k5,.int .i64 (pq c.s (open_ o))];let k6:=su c.b (open_ o);let k3:Value:=.tuple #[.int .i64 k6,.int .i64 (pq c.b (open_ o))];let k4:Value:=.int .i64 (open_ o); .cs (cell.right c) (.k (.cs (order.right o) (.c (.tuple #[.int .i64 ((worth o).1),.int .i64 ((worth o).2)]) (.s .z (.s (.o [3] (.two (.c k4 (.c k2 (.c k0 (.s (.k (.k .z)) (.k (.s (.k .z) (.k (.cs (cell.right (⟨c.p,c.b,k5,k1⟩)) .z .z)))))))) (.c k4 (.c k2 (.c k0 (.s (.k (.k .z)) (.k (.s (.k .z) (.k (.cs (cell.right (⟨c.p,c.b,k5,k1⟩)) .z .z)))))))))) (.o [3] (.two (.c k4 (.c k3 (.c k0 (.s (.k (.k .z)) (.k (.s (.k .z) (.k (.cs (cell.right (⟨c.p,k6,c.s,k1⟩)) .z .z)))))))) (.c k4 (.c k3 (.c k0 (.s (.k (.k .z)) (.k (.s (.k .z) (.k (.cs (cell.right (⟨c.p,k6,c.s,k1⟩)) .z .z))))))))))))) .z)) (.k .z)) (X :=
 let k2:Array Value:=#[.agg (cell.cc (cell.go c o).1),.int .i64 (cell.go c o).2];let k0:=(.tuple #[.agg (cell.cc c),.int .i64 3]:Value) = .tuple k2;let k1:=su c.n ((worth o).1);let k3 := !decide ((pq c.n ((worth o).1))=0);let k7:=su c.s (open_ o);let k4:Array Value:=#[.int .i64 c.p,.int .i64 c.b,.int .i64 k7,.int .i64 k1];let k8:=su c.b (open_ o);let k5:Array Value:=#[.int .i64 c.p,.int .i64 k8,.int .i64 c.s,.int .i64 k1];let k6:Value:=.tuple #[.int .i64 k1,.int .i64 (pq c.n ((worth o).1))];let k9:Array Value:=#[.int .i64 c.n,.int .i64 ((worth o).1)];let k10 := !decide ((pq c.s (open_ o))=0);let k11 := !decide ((pq c.b (open_ o))=0);let k12:Array Value:=#[.agg (order.oc o)];let k13:=(.tuple #[.agg (cell.cc c),.int .i64 1]:Value) = .tuple k2;let k14:=(.tuple #[.agg k4,.int .i64 0]:Value) = .tuple k2;let k15:=(.tuple #[.agg k5,.int .i64 0]:Value) = .tuple k2;let k16:Value:=.int .i64 (open_ o);let k17:Value:=.tuple #[.int .i64 k7,.int .i64 (pq c.s (open_ o))];let k18:Value:=.tuple #[.int .i64 k8,.int .i64 (pq c.b (open_ o))];let k19:Value:=.bool (cell.right (⟨c.p,c.b,k7,k1⟩));let k20:Value:=.bool (cell.right (⟨c.p,k8,c.s,k1⟩));let k21 := !decide (((worth o).2)=0);let k22:=order.right o; ∀ g0:Nat,∀ g1:Nat,∀ g2:Nat,iq Tryz.prog w [] 69 #[.agg (cell.cc c)] (.bool (cell.right c))∧((cell.right c)=true→iq Tryz.prog w [] 67 k12 (.bool k22)∧(k22=true→iq Tryz.prog w [] 116 k12 (.tuple #[.int .i64 ((worth o).1),.int .i64 ((worth o).2)])∧(k21=true→k0)∧(k21=false→∀ g3:Nat,((decide (o.d=2))=true→(iq Tryz.prog w [] 117 k12 k16∧iq Tryz.prog w [] 115 #[.int .i64 c.s,.int .i64 (open_ o)] k17∧iq Tryz.prog w [] 115 k9 k6∧(k10=true→k0)∧(k10=false→(k3=true→k0)∧(k3=false→iq Tryz.prog w [] 69 #[.agg k4] k19∧((cell.right (⟨c.p,c.b,k7,k1⟩))=true→k14)∧((cell.right (⟨c.p,c.b,k7,k1⟩))=false→k0))))∧(iq Tryz.prog w [] 117 k12 k16∧iq Tryz.prog w [] 115 #[.int .i64 c.s,.int .i64 (open_ o)] k17∧iq Tryz.prog w [] 115 k9 k6∧(k10=true→k0)∧(k10=false→(k3=true→k0)∧(k3=false→iq Tryz.prog w [] 69 #[.agg k4] k19∧((cell.right (⟨c.p,c.b,k7,k1⟩))=true→k14)∧((cell.right (⟨c.p,c.b,k7,k1⟩))=false→k0)))))∧((decide (o.d=2))=false→(iq Tryz.prog w [] 117 k12 k16∧iq Tryz.prog w [] 115 #[.int .i64 c.b,.int .i64 (open_ o)] k18∧iq Tryz.prog w [] 115 k9 k6∧(k11=true→k0)∧(k11=false→(k3=true→k0)∧(k3=false→iq Tryz.prog w [] 69 #[.agg k5] k20∧((cell.right (⟨c.p,k8,c.s,k1⟩))=true→k15)∧((cell.right (⟨c.p,k8,c.s,k1⟩))=false→k0))))∧(iq Tryz.prog w [] 117 k12 k16∧iq Tryz.prog w [] 115 #[.int .i64 c.b,.int .i64 (open_ o)] k18∧iq Tryz.prog w [] 115 k9 k6∧(k11=true→k0)∧(k11=false→(k3=true→k0)∧(k3=false→iq Tryz.prog w [] 69 #[.agg k5] k20∧((cell.right (⟨c.p,k8,c.s,k1⟩))=true→k15)∧((cell.right (⟨c.p,k8,c.s,k1⟩))=false→k0)))))))∧(k22=false→k13))∧((cell.right c)=false→k13)) Tryz.func94 (by kernel_rfl)
 (fun g0=>fun g1=>fun g2=>⟨Oy hc,fun h1=>⟨qn6 ho,fun h2=>⟨qvn ho,⟨fun h3=>have h3:¬ ((worth o).2)=0:=(by simpa using h3)
(Aw (q2r h1 h2 h3)),
 fun h3=>have h3:((worth o).2)=0:=(by simpa using h3)
 fun g3=>⟨fun h4=>have h4:o.d=2:=(by simpa using h4)
⟨⟨Xq ho,⟨Ut (hc.2.2.1) (cell.Nb ho),⟨Ut (hc.2.2.2) (cell.Um o),⟨fun h5=>have h5:¬ (pq c.s (open_ o))=0:=(by simpa using h5)
(Aw (qhy h1 h2 h3 h4 (.inl h5))),
 fun h5=>have h5:(pq c.s (open_ o))=0:=(by simpa using h5)
⟨fun h6=>have h6:¬ (pq c.n ((worth o).1))=0:=(by simpa using h6)
(Aw (qhy h1 h2 h3 h4 (.inr (.inl h6)))),
 fun h6=>have h6:(pq c.n ((worth o).1))=0:=(by simpa using h6)
⟨Oy ⟨(hc.1),(hc.2.1),(Vq _ _),(Vq _ _)⟩,fun h7=>(Aw (qs7 hc h1 h2 h3 h4 h5 h6 h7)),
 fun h7=>(Aw (qhy h1 h2 h3 h4 (.inr (.inr h7))))⟩⟩⟩⟩⟩⟩,
⟨Xq ho,⟨Ut (hc.2.2.1) (cell.Nb ho),⟨Ut (hc.2.2.2) (cell.Um o),⟨fun h8=>have h8:¬ (pq c.s (open_ o))=0:=(by simpa using h8)
(Aw (qhy h1 h2 h3 h4 (.inl h8))),
 fun h8=>have h8:(pq c.s (open_ o))=0:=(by simpa using h8)
⟨fun h9=>have h9:¬ (pq c.n ((worth o).1))=0:=(by simpa using h9)
(Aw (qhy h1 h2 h3 h4 (.inr (.inl h9)))),
 fun h9=>have h9:(pq c.n ((worth o).1))=0:=(by simpa using h9)
⟨Oy ⟨(hc.1),(hc.2.1),(Vq _ _),(Vq _ _)⟩,fun h10=>(Aw (qs7 hc h1 h2 h3 h4 h8 h9 h10)),
 fun h10=>(Aw (qhy h1 h2 h3 h4 (.inr (.inr h10))))⟩⟩⟩⟩⟩⟩⟩,
 fun h4=>have h4:¬ o.d=2:=(by simpa using h4)
⟨⟨Xq ho,⟨Ut (hc.2.1) (cell.Nb ho),⟨Ut (hc.2.2.2) (cell.Um o),⟨fun h11=>have h11:¬ (pq c.b (open_ o))=0:=(by simpa using h11)
(Aw (qhz h1 h2 h3 (Nc h2 h4) (.inl h11))),
 fun h11=>have h11:(pq c.b (open_ o))=0:=(by simpa using h11)
⟨fun h12=>have h12:¬ (pq c.n ((worth o).1))=0:=(by simpa using h12)
(Aw (qhz h1 h2 h3 (Nc h2 h4) (.inr (.inl h12)))),
 fun h12=>have h12:(pq c.n ((worth o).1))=0:=(by simpa using h12)
⟨Oy ⟨(hc.1),(Vq _ _),(hc.2.2.1),(Vq _ _)⟩,fun h13=>(Aw (qs8 hc h1 h2 h3 (Nc h2 h4) h11 h12 h13)),
 fun h13=>(Aw (qhz h1 h2 h3 (Nc h2 h4) (.inr (.inr h13))))⟩⟩⟩⟩⟩⟩,
⟨Xq ho,⟨Ut (hc.2.1) (cell.Nb ho),⟨Ut (hc.2.2.2) (cell.Um o),⟨fun uy=>have uy:¬ (pq c.b (open_ o))=0:=(by simpa using uy)
(Aw (qhz h1 h2 h3 (Nc h2 h4) (.inl uy))),
 fun uy=>have uy:(pq c.b (open_ o))=0:=(by simpa using uy)
⟨fun h15=>have h15:¬ (pq c.n ((worth o).1))=0:=(by simpa using h15)
(Aw (qhz h1 h2 h3 (Nc h2 h4) (.inr (.inl h15)))),
 fun h15=>have h15:(pq c.n ((worth o).1))=0:=(by simpa using h15)
⟨Oy ⟨(hc.1),(Vq _ _),(hc.2.2.1),(Vq _ _)⟩,fun h16=>(Aw (qs8 hc h1 h2 h3 (Nc h2 h4) uy h15 h16)),
 fun h16=>(Aw (qhz h1 h2 h3 (Nc h2 h4) (.inr (.inr h16))))⟩⟩⟩⟩⟩⟩⟩⟩⟩⟩,
 fun h2=>(Aw (qs6 (.inr h2)))⟩,
 fun h1=>(Aw (qs6 (.inl h1)))⟩)
theorem q92 (c:Ce) (o:Or) (hc:c.fine) (ho:o.fine) (w:World):Calls Tryz.prog 70 #[.agg (cell.cc c),.agg (order.oc o)] w fun e w'=>e = .returned (.tuple #[.agg (cell.cc (cell.come c o).1),.int .i64 (cell.come c o).2])∧Below w.heap.size w w' :=
 uw (fn:=Tryz.f70) (r:=.tuple #[.agg (cell.cc (cell.come c o).1),.int .i64 (cell.come c o).2]) (t:=.c (.tuple #[.agg (cell.cc ((cell.come c o).1)),.int .i64 ((cell.come c o).2)]) .z) (X :=
 let k0:=cell.come c o;let k1:Array Value:=#[.agg (cell.cc (k0.1)),.int .i64 (k0.2)]; ∀ g0:Nat,∀ g1:Nat,∀ g2:Nat,iq Tryz.prog w [] 94 #[.agg (cell.cc c),.agg (order.oc o),.func (.func 95) #[] #[]] (.tuple k1)∧((.tuple k1:Value) = .tuple #[.agg (cell.cc k0.1),.int .i64 k0.2])) Tryz.func70 (by kernel_rfl)
 (fun g0=>fun g1=>fun g2=>⟨gives (qxu c o hc ho),rfl⟩)
theorem lgo (c:Ce) (o:Or) (hc:c.fine) (ho:o.fine) (w:World):Calls Tryz.prog 127 #[.agg (cell.cc c),.agg (order.oc o)] w fun e w'=>e = .returned (.tuple #[.agg (cell.cc (cell.go c o).1),.int .i64 (cell.go c o).2])∧Below w.heap.size w w' :=
 uw (fn:=Tryz.f127) (r:=.tuple #[.agg (cell.cc (cell.go c o).1),.int .i64 (cell.go c o).2]) (t:=.c (.tuple #[.agg (cell.cc ((cell.go c o).1)),.int .i64 ((cell.go c o).2)]) .z) (X :=
 let k0:Array Value:=#[.agg (cell.cc ((cell.go c o).1)),.int .i64 ((cell.go c o).2)]; ∀ g0:Nat,∀ g1:Nat,∀ g2:Nat,iq Tryz.prog w [] 94 #[.agg (cell.cc c),.agg (order.oc o),.func (.func 115) #[] #[]] (.tuple k0)∧((.tuple k0:Value) = .tuple #[.agg (cell.cc (cell.go c o).1),.int .i64 (cell.go c o).2])) Tryz.func127 (by kernel_rfl)
 (fun g0=>fun g1=>fun g2=>⟨gives (q2s c o hc ho),rfl⟩)
theorem zki (c:Ce) (d q:Int) (hc:c.fine) (hd:frame.jh d) (hq:frame.jh q) (w:World):Calls Tryz.prog 128 #[.agg (cell.cc c),.int .i64 d,.int .i64 q] w fun e w'=>e = .returned (.tuple #[.agg (cell.cc (cell.did c d q).1),.int .i64 (cell.did c d q).2])∧Below w.heap.size w w' :=
 uw (fn:=Tryz.f128) (r:=.tuple #[.agg (cell.cc (cell.did c d q).1),.int .i64 (cell.did c d q).2]) (t:=.cs (cell.right c) (.k (.s (.k (.s (.k .z) (.k (.s .z (.m true (.c (.tuple #[.int .i64 (su c.p q),.int .i64 (pq c.p q)]) (.s (.k .z) (.k (.cs (cell.right (⟨(su c.p q),c.b,c.s,c.n⟩)) .z .z))))))))) (.k (.k (.s .z (.m false (.c (.tuple #[.int .i64 (mg c.p q),.int .i64 (oh c.p q)]) (.s (.k .z) (.k (.cs (cell.right (⟨(mg c.p q),c.b,c.s,c.n⟩)) .z .z)))))))))) (.k (.k .z))) (X :=
 let k0:Array Value:=#[.agg (cell.cc (cell.did c d q).1),.int .i64 (cell.did c d q).2];let k1:=(.tuple #[.agg (cell.cc c),.int .i64 1]:Value) = .tuple k0;let k2:=(.tuple #[.agg (cell.cc c),.int .i64 3]:Value) = .tuple k0;let k3:Array Value:=#[.int .i64 (su c.p q),.int .i64 c.b,.int .i64 c.s,.int .i64 c.n];let k4:Array Value:=#[.int .i64 (mg c.p q),.int .i64 c.b,.int .i64 c.s,.int .i64 c.n];let k5:=decide (q < 0);let k6 := !decide ((pq c.p q)=0);let k7 := !decide ((oh c.p q)=0);let k8:=cell.right c; ∀ g0:Nat,∀ g1:Nat,iq Tryz.prog w [] 69 #[.agg (cell.cc c)] (.bool k8)∧(k8=true→((!decide (d=1))=true→((!decide (d=2))=true→k1)∧((!decide (d=2))=false→(k5=true→k1)∧(k5=false→(decide (d=2))=true∧iq Tryz.prog w [] 115 #[.int .i64 c.p,.int .i64 q] (.tuple #[.int .i64 (su c.p q),.int .i64 (pq c.p q)])∧∀ g2:Nat,(k6=true→k2)∧(k6=false→iq Tryz.prog w [] 69 #[.agg k3] (.bool (cell.right (⟨(su c.p q),c.b,c.s,c.n⟩)))∧((cell.right (⟨(su c.p q),c.b,c.s,c.n⟩))=true→((.tuple #[.agg k3,.int .i64 0]:Value) = .tuple k0))∧((cell.right (⟨(su c.p q),c.b,c.s,c.n⟩))=false→k2)))))∧((!decide (d=1))=false→(k5=true→k1)∧(k5=false→(decide (d=2))=false∧iq Tryz.prog w [] 95 #[.int .i64 c.p,.int .i64 q] (.tuple #[.int .i64 (mg c.p q),.int .i64 (oh c.p q)])∧∀ g2:Nat,(k7=true→k2)∧(k7=false→iq Tryz.prog w [] 69 #[.agg k4] (.bool (cell.right (⟨(mg c.p q),c.b,c.s,c.n⟩)))∧((cell.right (⟨(mg c.p q),c.b,c.s,c.n⟩))=true→((.tuple #[.agg k4,.int .i64 0]:Value) = .tuple k0))∧((cell.right (⟨(mg c.p q),c.b,c.s,c.n⟩))=false→k2)))))∧(k8=false→k1)) Tryz.func128 (by kernel_rfl)
 (fun g0=>fun g1=>⟨Oy hc,fun h1=>⟨fun h2=>have h2:¬ d=1:=(by simpa using h2)
⟨fun h3=>have h3:¬ d=2:=(by simpa using h3)
(Aw (qm2 (.inr (by omega)))),
 fun h3=>have h3:d=2:=(by simpa using h3)
⟨fun h4=>have h4:q < 0:=(by simpa using h4)
(Aw (qm2 (.inr (by omega)))),
 fun h4=>have h4:¬ q < 0:=(by simpa using h4)
⟨by simp only [dq];omega,⟨Ut (hc.1) hq,fun g2=>⟨fun h5=>have h5:¬ (pq c.p q)=0:=(by simpa using h5)
(Aw (qzt h1 (by omega) (by omega) (by omega) (.inl h5))),
 fun h5=>have h5:(pq c.p q)=0:=(by simpa using h5)
⟨Oy ⟨(Vq _ _),(hc.2.1),(hc.2.2.1),(hc.2.2.2)⟩,fun h6=>(Aw (q90 hc h1 (by omega) (by omega) (by omega) h5 h6)),
 fun h6=>(Aw (qzt h1 (by omega) (by omega) (by omega) (.inr h6)))⟩⟩⟩⟩⟩⟩,
 fun h2=>have h2:d=1:=(by simpa using h2)
⟨fun h7=>have h7:q < 0:=(by simpa using h7)
(Aw (qm2 (.inr (by omega)))),
 fun h7=>have h7:¬ q < 0:=(by simpa using h7)
⟨by simp only [dq];omega,⟨Rn (hc.1) hq,fun g2=>⟨fun h8=>have h8:¬ (oh c.p q)=0:=(by simpa using h8)
(Aw (qzu h1 (by omega) (by omega) (by omega) (.inl h8))),
 fun h8=>have h8:(oh c.p q)=0:=(by simpa using h8)
⟨Oy ⟨(Lj _ _),(hc.2.1),(hc.2.2.1),(hc.2.2.2)⟩,fun h9=>(Aw (q91 hc h1 (by omega) (by omega) (by omega) h8 h9)),
 fun h9=>(Aw (qzu h1 (by omega) (by omega) (by omega) (.inr h9)))⟩⟩⟩⟩⟩⟩,
 fun h1=>(Aw (qm2 (.inl h1)))⟩)
end Go.Proofs.YtbbjlfbemibfcaaGreat.book
end
section
namespace Go.Proofs.YtbbjlfbemibfcaaGreat.book
set_option maxRecDepth 20000
open Go.RowKit Go.Proofs.YtbbjlfbemibfcaaGreat
open Go.Proofs.YtbbjlfbemibfcaaGreat.order (Or Nt open_ worth oz)
open Go.Proofs.YtbbjlfbemibfcaaGreat.cell (Ce Ex)
open Go.Proofs.YtbbjlfbemibfcaaGreat.rec (Rc)
variable {w0:World} {D:List Fact}
theorem q5y {r:Rc} (hf:r.fine):iq Tryz.prog w0 D 100 #[.agg (rec.rc r)] (.tuple #[.agg (order.oc (order.jl r).1),.int .i64 (order.jl r).2]):=gives (q5w r hf)
theorem q2t {o:Or} {x z:Int} (hf:o.fine) (hx:frame.jh x) (hz:frame.jh z):iq Tryz.prog w0 D 104 #[.agg (order.oc o),.int .i64 x,.int .i64 z] (.tuple #[.agg (order.oc (order.change o x z).1),.int .i64 (order.change o x z).2]):=gives (q2o o x z hf)
theorem q8k {o:Or} (hf:o.fine):iq Tryz.prog w0 D 106 #[.agg (order.oc o)] (.tuple #[.agg (order.oc (order.stop o).1),.int .i64 (order.stop o).2]):=gives (q9z o)
theorem q8l {o:Or} {n:Nt} (hf:o.fine) (hn:frame.jh n.z∧frame.jh n.t∧frame.jh n.o∧frame.jh n.q∧frame.jh n.p):iq Tryz.prog w0 D 107 #[.agg (order.oc o),.agg (ntc n)] (.tuple #[.agg (order.oc (order.take o n).1),.int .i64 (order.take o n).2]):=gives (q8f o n hf hn)
theorem Vw {c:Ce} {o:Or} (hc:c.fine) (ho:o.fine):iq Tryz.prog w0 D 70 #[.agg (cell.cc c),.agg (order.oc o)] (.tuple #[.agg (cell.cc (cell.come c o).1),.int .i64 (cell.come c o).2]):=gives (q92 c o hc ho)
theorem l_go {c:Ce} {o:Or} (hc:c.fine) (ho:o.fine):iq Tryz.prog w0 D 127 #[.agg (cell.cc c),.agg (order.oc o)] (.tuple #[.agg (cell.cc (cell.go c o).1),.int .i64 (cell.go c o).2]):=gives (lgo c o hc ho)
theorem q93 {c:Ce} {d q:Int} (hc:c.fine) (hd:frame.jh d) (hq:frame.jh q):iq Tryz.prog w0 D 128 #[.agg (cell.cc c),.int .i64 d,.int .i64 q] (.tuple #[.agg (cell.cc (cell.did c d q).1),.int .i64 (cell.did c d q).2]):=gives (zki c d q hc hd hq)
theorem Y0 {c:Ce} (hc:c.fine):iq Tryz.prog w0 D 93 #[.agg (cell.cc c)] (.tuple #[.agg (cell.xc (cell.Ba c).1),.int .i64 (cell.Ba c).2]):=gives (zdq c hc)
theorem qs9 {l:Ex} : iq Tryz.prog w0 D 47 #[.agg (cell.xc l)] (.bool (limit.right l)):=gives (q2q l)
theorem qzv {a b c:Ex} : iq Tryz.prog w0 D 125 #[.agg (cell.xc a),.agg (cell.xc b),.agg (cell.xc c)] (.bool (limit.against a b c)):=gives (qzs a b c)
theorem q94 {a b c:Int} : iq Tryz.prog w0 D 126 #[.int .i64 a,.int .i64 b,.int .i64 c] (.bool (limit.cap a b c)):=gives (qry a b c)
theorem qm3 {A:Option Addr} {n c:Nat} {xs:List Ce} (h:∀ w,Below w0.heap.size w0 w→All D w→ql gu 4 w (Lt w.heap.size) A xs) (hn:xs.length=n) (hm:n≤100):iq Tryz.prog w0 D 71 #[.slice A n c] (.tuple #[.int .i64 (limit.whole xs).1,.int .i64 (limit.whole xs).2]) :=
 fun w hw ha=>limit.qx A n c w.heap.size xs w (h w hw ha) (Nat.le_refl _) hn hm rfl
end Go.Proofs.YtbbjlfbemibfcaaGreat.book
end
