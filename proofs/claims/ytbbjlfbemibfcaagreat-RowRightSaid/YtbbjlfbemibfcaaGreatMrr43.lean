/-
  z6y, zhb
-/
import Derived.Test.YtbbjlfbemibfcaaGreatMrr19
import Derived.Test.YtbbjlfbemibfcaaGreatMrr36
import Derived.Test.YtbbjlfbemibfcaaGreatMrr16
import Derived.Test.YtbbjlfbemibfcaaGreatMrr42
import Derived.Test.YtbbjlfbemibfcaaGreatMrr37
set_option linter.unusedVariables false
set_option linter.unusedSimpArgs false
section
namespace Go.Proofs.YtbbjlfbemibfcaaGreat.row
open Go.RowKit Go.Proofs.YtbbjlfbemibfcaaGreat
set_option maxRecDepth 20000
open Go.Proofs.YtbbjlfbemibfcaaGreat.book (St right)
theorem D8 {s t:St} (h1:s.a=t.a) (h2:s.y=t.y) (h3:s.k=t.k) (h4:s.last=t.last) (h5:s.seq=t.seq) (h6:s.ng=t.ng) (h7:s.os=t.os) (h8:s.cs=t.cs) (h9:s.ls=t.ls) (h10:s.ps=t.ps):decide (s=t)=true:=by
 obtain ⟨a,y,os,cs,ls,ps,k,last,seq,ng⟩:=s
 obtain ⟨a',y',os',cs',ls',ps',k',last',seq',zlu⟩:=t
 simp only at h1 h2 h3 h4 h5 h6 h7 h8 h9 h10
 subst h1 h2 h3 h4 h5 h6 h7 h8 h9 h10
 simp
theorem jk {s t:St} (h:¬ s=t):decide (s=t)=false:=decide_eq_false h
theorem q6s (A A2:Option Addr) (c c2:Nat) (xs ys:List order.Or)  (w:World) (hx:ql eu 12 w (Lt w.heap.size) A xs) (hy:ql eu 12 w (Lt w.heap.size) A2 ys) (hm:xs.length≤9223372036854775807):Calls Tryz.prog 34 #[.slice A xs.length c,.slice A2 ys.length c2] w fun e w'=>e = .returned (.bool (decide (xs=ys)))∧Below w.heap.size w w' :=
 uw (fn:=Tryz.f34) (r:=.bool (decide (xs=ys))) (t:=.s .z (.l (Nat) (fun x=>[(0,.slice A xs.length c,none),(1,.slice A2 ys.length c2,none),(12,.int .i64 (xs.length:Int),none),(13,.int .i64 (x:Int),none)]) (fun x=>[]) [] [] (fun x=>[]) (fun x=>x≤xs.length∧∀ j,j < x→xs.getD j order.oz=ys.getD j order.oz) (fun x=>xs.length - x) (0:Nat) (fun y2=>.s (.o [] (.p (au A) (ay A+y2 * 12) (order.oc (xs.getD y2 order.oz)) (.p (au A2) (ay A2+y2 * 12) (order.oc (ys.getD y2 order.oz)) (.xs (!decide ((xs.getD y2 order.oz)=(ys.getD y2 order.oz))) .z (.e (.int .i64 ((y2+1:Nat):Int)) .z))))) .z))) (X :=
 let k0:=(xs.length:Int);let k1:=(.bool false:Value) = .bool (decide (xs=ys));let k2 := !decide (k0=(ys.length:Int));let k3:=([]:List (Option jv));(k2=true→k1)∧(k2=false→xg w [] []∧((0:Nat)≤xs.length∧∀ j,j < (0:Nat)→xs.getD j order.oz=ys.getD j order.oz)∧(([.slice A xs.length c,.slice A2 ys.length c2,.int .i64 k0,.int .i64 0]:List Value)=[.slice A xs.length c,.slice A2 ys.length c2,.int .i64 k0,.int .i64 ((0:Nat):Int)]∧k3=[]∧iw w [] [])∧true=true∧∀ (y2:Nat),let k4 := !decide ((xs.getD y2 order.oz)=(ys.getD y2 order.oz));let k5:=order.oc (xs.getD y2 order.oz);let k6:=order.oc (ys.getD y2 order.oz);let k7:=decide ((y2:Int) < k0);(y2≤xs.length∧∀ j,j < y2→xs.getD j order.oz=ys.getD j order.oz)→∀ τ4:Nat→Value,(k7=true→jd Tryz.prog w [] (Instr.indexAt 22 (.slice A xs.length c) (.int .i64 (y2:Int))) (.pointer (some ⟨au A,ay A+y2 * 12,none⟩))∧o7 w [] (au A) (ay A+y2 * 12) k5∧jd Tryz.prog w [] (Instr.indexAt 22 (.slice A2 ys.length c2) (.int .i64 (y2:Int))) (.pointer (some ⟨au A2,ay A2+y2 * 12,none⟩))∧o7 w [] (au A2) (ay A2+y2 * 12) k6∧jd Tryz.prog w [] (do eqGuard BinOp.neq 54 (.tmp 19) (.tmp 23) (.agg k5) (.agg k6);Go.binOp BinOp.neq 54 (.agg k5) (.agg k6)) (.bool k4)∧(k4=true→k1)∧(k4=false→(.int .i64 (IntKind.i64.wrap ((y2:Int)+1)):Value) = .int .i64 ((y2+1:Nat):Int)∧∃ x' : Nat,(x'≤xs.length∧∀ j,j < x'→xs.getD j order.oz=ys.getD j order.oz)∧(xs.length - x' < xs.length - y2)∧(([.slice A xs.length c,.slice A2 ys.length c2,.int .i64 k0,.int .i64 ((y2+1:Nat):Int)]:List Value)=[.slice A xs.length c,.slice A2 ys.length c2,.int .i64 k0,.int .i64 (x' : Int)]∧k3=[]∧iw w [] [])∧true=true))∧(k7=false→((.bool true:Value) = .bool (decide (xs=ys)))))) Tryz.func34 (by kernel_rfl)
 (⟨fun h1=>have h1:¬ (xs.length:Int)=(ys.length:Int):=(by simpa using h1)
(by rw [decide_eq_false (fun e=>by subst e;omega)]),
 fun h1=>have h1:(xs.length:Int)=(ys.length:Int):=(by simpa using h1)
⟨(fun w _ _=>zh),⟨Nat.zero_le _,fun j hj=>absurd hj (Nat.not_lt_zero j)⟩,⟨rfl,rfl,(jm (List.nil_sublist _))⟩,rfl,fun y2 I3 τ4=>⟨fun h5=>have h5:(y2:Int) < (xs.length:Int):=(by simpa using h5)
⟨(yw Tryz.underlying22 qbd Dv (Nat.le_refl _) hx rfl (by omega)),(qa0 Dv (Nat.le_refl _) hx (ou (by omega))),⟨(yw Tryz.underlying22 qbd Dv (Nat.le_refl _) hy rfl (by omega)),(qa0 Dv (Nat.le_refl _) hy (ou (by omega))),⟨Ri (by kernel_rfl) (order.qnz (xs.getD y2 order.oz) (ys.getD y2 order.oz) (Bh hx _ (l7 (by omega))) (Bh hy _ (l7 (by omega)))) _ _,fun h6=>(by rw [decide_eq_false (fun e=>book.P6 (by simpa using h6) e)]),
 fun h6=>⟨lg (by omega) (by omega) (by omega),⟨((y2+1):Nat),⟨by omega,book.Gx I3.2 (by simpa using h6)⟩,(by omega),⟨rfl,rfl,(jm (List.nil_sublist _))⟩,rfl⟩⟩⟩⟩⟩,
 fun h5=>have h5:¬ (y2:Int) < (xs.length:Int):=(by simpa using h5)
(by rw [decide_eq_true (book.Ox (by omega) (fun j hj=>I3.2 j (by omega)))])⟩⟩⟩)
theorem q84 (A A2:Option Addr) (c c2:Nat) (xs ys:List cell.Ce)  (w:World) (hx:ql gu 4 w (Lt w.heap.size) A xs) (hy:ql gu 4 w (Lt w.heap.size) A2 ys) (hm:xs.length≤9223372036854775807):Calls Tryz.prog 35 #[.slice A xs.length c,.slice A2 ys.length c2] w fun e w'=>e = .returned (.bool (decide (xs=ys)))∧Below w.heap.size w w' :=
 uw (fn:=Tryz.f35) (r:=.bool (decide (xs=ys))) (t:=.s .z (.l (Nat) (fun x=>[(0,.slice A xs.length c,none),(1,.slice A2 ys.length c2,none),(12,.int .i64 (xs.length:Int),none),(13,.int .i64 (x:Int),none)]) (fun x=>[]) [] [] (fun x=>[]) (fun x=>x≤xs.length∧∀ j,j < x→xs.getD j cell.cz=ys.getD j cell.cz) (fun x=>xs.length - x) (0:Nat) (fun y2=>.s (.o [] (.p (au A) (ay A+y2 * 4) (cell.cc (xs.getD y2 cell.cz)) (.p (au A2) (ay A2+y2 * 4) (cell.cc (ys.getD y2 cell.cz)) (.xs (!decide ((xs.getD y2 cell.cz)=(ys.getD y2 cell.cz))) .z (.e (.int .i64 ((y2+1:Nat):Int)) .z))))) .z))) (X :=
 let k0:=(xs.length:Int);let k1:=(.bool false:Value) = .bool (decide (xs=ys));let k2 := !decide (k0=(ys.length:Int));let k3:=([]:List (Option jv));(k2=true→k1)∧(k2=false→xg w [] []∧((0:Nat)≤xs.length∧∀ j,j < (0:Nat)→xs.getD j cell.cz=ys.getD j cell.cz)∧(([.slice A xs.length c,.slice A2 ys.length c2,.int .i64 k0,.int .i64 0]:List Value)=[.slice A xs.length c,.slice A2 ys.length c2,.int .i64 k0,.int .i64 ((0:Nat):Int)]∧k3=[]∧iw w [] [])∧true=true∧∀ (y2:Nat),let k4 := !decide ((xs.getD y2 cell.cz)=(ys.getD y2 cell.cz));let k5:=cell.cc (xs.getD y2 cell.cz);let k6:=cell.cc (ys.getD y2 cell.cz);let k7:=decide ((y2:Int) < k0);(y2≤xs.length∧∀ j,j < y2→xs.getD j cell.cz=ys.getD j cell.cz)→∀ τ4:Nat→Value,(k7=true→jd Tryz.prog w [] (Instr.indexAt 23 (.slice A xs.length c) (.int .i64 (y2:Int))) (.pointer (some ⟨au A,ay A+y2 * 4,none⟩))∧o7 w [] (au A) (ay A+y2 * 4) k5∧jd Tryz.prog w [] (Instr.indexAt 23 (.slice A2 ys.length c2) (.int .i64 (y2:Int))) (.pointer (some ⟨au A2,ay A2+y2 * 4,none⟩))∧o7 w [] (au A2) (ay A2+y2 * 4) k6∧jd Tryz.prog w [] (do eqGuard BinOp.neq 60 (.tmp 19) (.tmp 23) (.agg k5) (.agg k6);Go.binOp BinOp.neq 60 (.agg k5) (.agg k6)) (.bool k4)∧(k4=true→k1)∧(k4=false→(.int .i64 (IntKind.i64.wrap ((y2:Int)+1)):Value) = .int .i64 ((y2+1:Nat):Int)∧∃ x' : Nat,(x'≤xs.length∧∀ j,j < x'→xs.getD j cell.cz=ys.getD j cell.cz)∧(xs.length - x' < xs.length - y2)∧(([.slice A xs.length c,.slice A2 ys.length c2,.int .i64 k0,.int .i64 ((y2+1:Nat):Int)]:List Value)=[.slice A xs.length c,.slice A2 ys.length c2,.int .i64 k0,.int .i64 (x' : Int)]∧k3=[]∧iw w [] [])∧true=true))∧(k7=false→((.bool true:Value) = .bool (decide (xs=ys)))))) Tryz.func35 (by kernel_rfl)
 (⟨fun h1=>have h1:¬ (xs.length:Int)=(ys.length:Int):=(by simpa using h1)
(by rw [decide_eq_false (fun e=>by subst e;omega)]),
 fun h1=>have h1:(xs.length:Int)=(ys.length:Int):=(by simpa using h1)
⟨(fun w _ _=>zh),⟨Nat.zero_le _,fun j hj=>absurd hj (Nat.not_lt_zero j)⟩,⟨rfl,rfl,(jm (List.nil_sublist _))⟩,rfl,fun y2 I3 τ4=>⟨fun h5=>have h5:(y2:Int) < (xs.length:Int):=(by simpa using h5)
⟨(yw Tryz.underlying23 yg qa2 (Nat.le_refl _) hx rfl (by omega)),(qa0 qa2 (Nat.le_refl _) hx (ou (by omega))),⟨(yw Tryz.underlying23 yg qa2 (Nat.le_refl _) hy rfl (by omega)),(qa0 qa2 (Nat.le_refl _) hy (ou (by omega))),⟨Ri (by kernel_rfl) (cell.Ed (xs.getD y2 cell.cz) (ys.getD y2 cell.cz) (Jg hx _ (l7 (by omega))) (Jg hy _ (l7 (by omega)))) _ _,fun h6=>(by rw [decide_eq_false (fun e=>book.P6 (by simpa using h6) e)]),
 fun h6=>⟨lg (by omega) (by omega) (by omega),⟨((y2+1):Nat),⟨by omega,book.Gx I3.2 (by simpa using h6)⟩,(by omega),⟨rfl,rfl,(jm (List.nil_sublist _))⟩,rfl⟩⟩⟩⟩⟩,
 fun h5=>have h5:¬ (y2:Int) < (xs.length:Int):=(by simpa using h5)
(by rw [decide_eq_true (book.Ox (by omega) (fun j hj=>I3.2 j (by omega)))])⟩⟩⟩)
theorem q85 (A A2:Option Addr) (c c2:Nat) (xs ys:List cell.Ex)  (w:World) (hx:ql je 3 w (Lt w.heap.size) A xs) (hy:ql je 3 w (Lt w.heap.size) A2 ys) (hm:xs.length≤9223372036854775807):Calls Tryz.prog 36 #[.slice A xs.length c,.slice A2 ys.length c2] w fun e w'=>e = .returned (.bool (decide (xs=ys)))∧Below w.heap.size w w' :=
 uw (fn:=Tryz.f36) (r:=.bool (decide (xs=ys))) (t:=.s .z (.l (Nat) (fun x=>[(0,.slice A xs.length c,none),(1,.slice A2 ys.length c2,none),(12,.int .i64 (xs.length:Int),none),(13,.int .i64 (x:Int),none)]) (fun x=>[]) [] [] (fun x=>[]) (fun x=>x≤xs.length∧∀ j,j < x→xs.getD j Ai=ys.getD j Ai) (fun x=>xs.length - x) (0:Nat) (fun y2=>.s (.o [] (.p (au A) (ay A+y2 * 3) (cell.xc (xs.getD y2 Ai)) (.p (au A2) (ay A2+y2 * 3) (cell.xc (ys.getD y2 Ai)) (.xs (!decide ((xs.getD y2 Ai)=(ys.getD y2 Ai))) .z (.e (.int .i64 ((y2+1:Nat):Int)) .z))))) .z))) (X :=
 let k0:=(xs.length:Int);let k1:=(.bool false:Value) = .bool (decide (xs=ys));let k2 := !decide (k0=(ys.length:Int));let k3:=([]:List (Option jv));(k2=true→k1)∧(k2=false→xg w [] []∧((0:Nat)≤xs.length∧∀ j,j < (0:Nat)→xs.getD j Ai=ys.getD j Ai)∧(([.slice A xs.length c,.slice A2 ys.length c2,.int .i64 k0,.int .i64 0]:List Value)=[.slice A xs.length c,.slice A2 ys.length c2,.int .i64 k0,.int .i64 ((0:Nat):Int)]∧k3=[]∧iw w [] [])∧true=true∧∀ (y2:Nat),let k4 := !decide ((xs.getD y2 Ai)=(ys.getD y2 Ai));let k5:=cell.xc (xs.getD y2 Ai);let k6:=cell.xc (ys.getD y2 Ai);let k7:=decide ((y2:Int) < k0);(y2≤xs.length∧∀ j,j < y2→xs.getD j Ai=ys.getD j Ai)→∀ τ4:Nat→Value,(k7=true→jd Tryz.prog w [] (Instr.indexAt 24 (.slice A xs.length c) (.int .i64 (y2:Int))) (.pointer (some ⟨au A,ay A+y2 * 3,none⟩))∧o7 w [] (au A) (ay A+y2 * 3) k5∧jd Tryz.prog w [] (Instr.indexAt 24 (.slice A2 ys.length c2) (.int .i64 (y2:Int))) (.pointer (some ⟨au A2,ay A2+y2 * 3,none⟩))∧o7 w [] (au A2) (ay A2+y2 * 3) k6∧jd Tryz.prog w [] (do eqGuard BinOp.neq 51 (.tmp 19) (.tmp 23) (.agg k5) (.agg k6);Go.binOp BinOp.neq 51 (.agg k5) (.agg k6)) (.bool k4)∧(k4=true→k1)∧(k4=false→(.int .i64 (IntKind.i64.wrap ((y2:Int)+1)):Value) = .int .i64 ((y2+1:Nat):Int)∧∃ x' : Nat,(x'≤xs.length∧∀ j,j < x'→xs.getD j Ai=ys.getD j Ai)∧(xs.length - x' < xs.length - y2)∧(([.slice A xs.length c,.slice A2 ys.length c2,.int .i64 k0,.int .i64 ((y2+1:Nat):Int)]:List Value)=[.slice A xs.length c,.slice A2 ys.length c2,.int .i64 k0,.int .i64 (x' : Int)]∧k3=[]∧iw w [] [])∧true=true))∧(k7=false→((.bool true:Value) = .bool (decide (xs=ys)))))) Tryz.func36 (by kernel_rfl)
 (⟨fun h1=>have h1:¬ (xs.length:Int)=(ys.length:Int):=(by simpa using h1)
(by rw [decide_eq_false (fun e=>by subst e;omega)]),
 fun h1=>have h1:(xs.length:Int)=(ys.length:Int):=(by simpa using h1)
⟨(fun w _ _=>zh),⟨Nat.zero_le _,fun j hj=>absurd hj (Nat.not_lt_zero j)⟩,⟨rfl,rfl,(jm (List.nil_sublist _))⟩,rfl,fun y2 I3 τ4=>⟨fun h5=>have h5:(y2:Int) < (xs.length:Int):=(by simpa using h5)
⟨(yw Tryz.underlying24 Es Gq (Nat.le_refl _) hx rfl (by omega)),(qa0 Gq (Nat.le_refl _) hx (ou (by omega))),⟨(yw Tryz.underlying24 Es Gq (Nat.le_refl _) hy rfl (by omega)),(qa0 Gq (Nat.le_refl _) hy (ou (by omega))),⟨Ri (by kernel_rfl) (cell.qps (xs.getD y2 Ai) (ys.getD y2 Ai) (Un hx _ (l7 (by omega))) (Un hy _ (l7 (by omega)))) _ _,fun h6=>(by rw [decide_eq_false (fun e=>book.P6 (by simpa using h6) e)]),
 fun h6=>⟨lg (by omega) (by omega) (by omega),⟨((y2+1):Nat),⟨by omega,book.Gx I3.2 (by simpa using h6)⟩,(by omega),⟨rfl,rfl,(jm (List.nil_sublist _))⟩,rfl⟩⟩⟩⟩⟩,
 fun h5=>have h5:¬ (y2:Int) < (xs.length:Int):=(by simpa using h5)
(by rw [decide_eq_true (book.Ox (by omega) (fun j hj=>I3.2 j (by omega)))])⟩⟩⟩)
theorem q6t (A A2:Option Addr) (c c2:Nat) (xs ys:List Int)  (w:World) (hx:ql (bf .i64) 1 w (Lt w.heap.size) A xs) (hy:ql (bf .i64) 1 w (Lt w.heap.size) A2 ys) (hm:xs.length≤9223372036854775807):Calls Tryz.prog 37 #[.slice A xs.length c,.slice A2 ys.length c2] w fun e w'=>e = .returned (.bool (decide (xs=ys)))∧Below w.heap.size w w' :=
 uw (fn:=Tryz.f37) (r:=.bool (decide (xs=ys))) (t:=.s .z (.l (Nat) (fun x=>[(0,.slice A xs.length c,none),(1,.slice A2 ys.length c2,none),(12,.int .i64 (xs.length:Int),none),(13,.int .i64 (x:Int),none)]) (fun x=>[]) [] [] (fun x=>[]) (fun x=>x≤xs.length∧∀ j,j < x→xs.getD j 0=ys.getD j 0) (fun x=>xs.length - x) (0:Nat) (fun y2=>.s (.o [] (.p (au A) (ay A+y2 * 1) #[.int .i64 (xs.getD y2 0)] (.p (au A2) (ay A2+y2 * 1) #[.int .i64 (ys.getD y2 0)] (.s .z (.e (.int .i64 ((y2+1:Nat):Int)) .z))))) .z))) (X :=
 let k0:=(xs.length:Int);let k1:=(.bool false:Value) = .bool (decide (xs=ys));let k2 := !decide (k0=(ys.length:Int));let k3:=([]:List (Option jv));(k2=true→k1)∧(k2=false→xg w [] []∧((0:Nat)≤xs.length∧∀ j,j < (0:Nat)→xs.getD j 0=ys.getD j 0)∧(([.slice A xs.length c,.slice A2 ys.length c2,.int .i64 k0,.int .i64 0]:List Value)=[.slice A xs.length c,.slice A2 ys.length c2,.int .i64 k0,.int .i64 ((0:Nat):Int)]∧k3=[]∧iw w [] [])∧true=true∧∀ (y2:Nat),let k4 := !decide ((xs.getD y2 0)=(ys.getD y2 0));let k5:=decide ((y2:Int) < k0);(y2≤xs.length∧∀ j,j < y2→xs.getD j 0=ys.getD j 0)→∀ τ4:Nat→Value,(k5=true→jd Tryz.prog w [] (Instr.indexAt 25 (.slice A xs.length c) (.int .i64 (y2:Int))) (.pointer (some ⟨au A,ay A+y2 * 1,none⟩))∧o7 w [] (au A) (ay A+y2 * 1) #[.int .i64 (xs.getD y2 0)]∧jd Tryz.prog w [] (Instr.indexAt 25 (.slice A2 ys.length c2) (.int .i64 (y2:Int))) (.pointer (some ⟨au A2,ay A2+y2 * 1,none⟩))∧o7 w [] (au A2) (ay A2+y2 * 1) #[.int .i64 (ys.getD y2 0)]∧(k4=true→k1)∧(k4=false→(.int .i64 (IntKind.i64.wrap ((y2:Int)+1)):Value) = .int .i64 ((y2+1:Nat):Int)∧∃ x' : Nat,(x'≤xs.length∧∀ j,j < x'→xs.getD j 0=ys.getD j 0)∧(xs.length - x' < xs.length - y2)∧(([.slice A xs.length c,.slice A2 ys.length c2,.int .i64 k0,.int .i64 ((y2+1:Nat):Int)]:List Value)=[.slice A xs.length c,.slice A2 ys.length c2,.int .i64 k0,.int .i64 (x' : Int)]∧k3=[]∧iw w [] [])∧true=true))∧(k5=false→((.bool true:Value) = .bool (decide (xs=ys)))))) Tryz.func37 (by kernel_rfl)
 (⟨fun h1=>have h1:¬ (xs.length:Int)=(ys.length:Int):=(by simpa using h1)
(by rw [decide_eq_false (fun e=>by subst e;omega)]),
 fun h1=>have h1:(xs.length:Int)=(ys.length:Int):=(by simpa using h1)
⟨(fun w _ _=>zh),⟨Nat.zero_le _,fun j hj=>absurd hj (Nat.not_lt_zero j)⟩,⟨rfl,rfl,(jm (List.nil_sublist _))⟩,rfl,fun y2 I3 τ4=>⟨fun h5=>have h5:(y2:Int) < (xs.length:Int):=(by simpa using h5)
⟨(yw Tryz.underlying25 qb0 Gw (Nat.le_refl _) hx rfl (by omega)),(qa0 Gw (Nat.le_refl _) hx (ou (by omega))),⟨(yw Tryz.underlying25 qb0 Gw (Nat.le_refl _) hy rfl (by omega)),(qa0 Gw (Nat.le_refl _) hy (ou (by omega))),⟨fun h6=>have h6:¬ (xs.getD y2 0)=(ys.getD y2 0):=(by simpa using h6)
(by rw [decide_eq_false (fun e=>book.P6 h6 e)]),
 fun h6=>have h6:(xs.getD y2 0)=(ys.getD y2 0):=(by simpa using h6)
⟨lg (by omega) (by omega) (by omega),⟨((y2+1):Nat),⟨by omega,book.Gx I3.2 h6⟩,(by omega),⟨rfl,rfl,(jm (List.nil_sublist _))⟩,rfl⟩⟩⟩⟩⟩,
 fun h5=>have h5:¬ (y2:Int) < (xs.length:Int):=(by simpa using h5)
(by rw [decide_eq_true (book.Ox (by omega) (fun j hj=>I3.2 j (by omega)))])⟩⟩⟩)
theorem qt0 (v:Sv) (s:St) (u:Sv) (t:St)  (w:World) (h:lu w (Lt w.heap.size) v s) (g:lu w (Lt w.heap.size) u t):Calls Tryz.prog 17 #[.agg (bg v s),.agg (bg u t)] w fun e w'=>e = .returned (.bool (decide (s=t)))∧Below w.heap.size w w' :=
 uw (fn:=Tryz.f17) (r:=.bool (decide (s=t))) (t:=.s (.k (.s (.k (.cs (decide (s.os=t.os)) (.k (.cs (decide (s.cs=t.cs)) (.k (.cs (decide (s.ls=t.ls)) (.k (.cs (decide (s.ps=t.ps)) (.k (.s (.s (.k (.k (.s (.k (.s (.k (.s .z .z)) (.k .z))) (.k (.k .z))))) (.k (.k (.k (.k .z))))) (.s (.k (.k (.k (.k .z)))) (.k (.k (.s (.k (.s (.k (.s .z .z)) (.k .z))) (.k (.k .z)))))))) (.k (.k (.k (.k .z)))))) (.k (.k (.k (.k (.k .z))))))) (.k (.k (.k (.k (.k (.k .z)))))))) (.k (.k (.k (.k (.k (.k (.k .z))))))))) (.k (.k (.k (.k (.k (.k (.k (.k .z)))))))))) (.k (.k (.k (.k (.k (.k (.k (.k (.k .z)))))))))) (X :=
 let k0:=(.bool false:Value) = .bool (decide (s=t));let k1:=decide (s.last=t.last);let k2:=decide (s.seq=t.seq);let k3:=decide (s.ng=t.ng);let k4:=(.bool true:Value) = .bool (decide (s=t));let k5:=decide (s.os=t.os);let k6:=decide (s.cs=t.cs);let k7:=decide (s.ls=t.ls);let k8:=decide (s.ps=t.ps); ∀ g0:Nat,∀ g1:Nat,((decide (s.a=t.a))=true→((decide (s.y=t.y))=true→iq Tryz.prog w [] 34 #[.slice v.A1 s.os.length v.c1,.slice u.A1 t.os.length u.c1] (.bool k5)∧(k5=true→iq Tryz.prog w [] 35 #[.slice v.A2 s.cs.length v.c2,.slice u.A2 t.cs.length u.c2] (.bool k6)∧(k6=true→iq Tryz.prog w [] 36 #[.slice v.A3 s.ls.length v.c3,.slice u.A3 t.ls.length u.c3] (.bool k7)∧(k7=true→iq Tryz.prog w [] 37 #[.slice v.A4 s.ps.length v.c4,.slice u.A4 t.ps.length u.c4] (.bool k8)∧(k8=true→(s.k=true→(t.k=true→(k1=true→(k2=true→(k3=true→k4)∧(k3=false→k0))∧(k2=false→k0))∧(k1=false→k0))∧(t.k=false→k0))∧(s.k=false→(t.k=true→k0)∧(t.k=false→(k1=true→(k2=true→(k3=true→k4)∧(k3=false→k0))∧(k2=false→k0))∧(k1=false→k0))))∧(k8=false→k0))∧(k7=false→k0))∧(k6=false→k0))∧(k5=false→k0))∧((decide (s.y=t.y))=false→k0))∧((decide (s.a=t.a))=false→k0)) Tryz.func17 (by kernel_rfl)
 (fun g0=>fun g1=>⟨fun h1=>have h1:s.a=t.a:=(by simpa using h1)
⟨fun h2=>have h2:s.y=t.y:=(by simpa using h2)
⟨(fun w2 hw _=>q6s _ _ _ _ _ _ w2 (h.later hw).o (g.later hw).o (by have:=h.len;omega)),fun h3=>⟨(fun w2 hw _=>q84 _ _ _ _ _ _ w2 (h.later hw).c (g.later hw).c (by have:=h.len;omega)),fun h4=>⟨(fun w2 hw _=>q85 _ _ _ _ _ _ w2 (h.later hw).l (g.later hw).l (by have:=h.len;omega)),fun h5=>⟨(fun w2 hw _=>q6t _ _ _ _ _ _ w2 (h.later hw).k (g.later hw).k (by have:=h.len;omega)),fun h6=>⟨fun h7=>⟨fun h8=>⟨fun h9=>have h9:s.last=t.last:=(by simpa using h9)
⟨fun h10=>have h10:s.seq=t.seq:=(by simpa using h10)
⟨fun h11=>have h11:s.ng=t.ng:=(by simpa using h11)
(by rw [D8 (by omega) (by omega) (h7.trans h8.symm) (by omega) (by omega) (by omega) (of_decide_eq_true h3) (of_decide_eq_true h4) (of_decide_eq_true h5) (of_decide_eq_true h6)]),
 fun h11=>have h11:¬ s.ng=t.ng:=(by simpa using h11)
(by rw [jk];intro e;subst e;simp_all)⟩,
 fun h10=>have h10:¬ s.seq=t.seq:=(by simpa using h10)
(by rw [jk];intro e;subst e;simp_all)⟩,
 fun h9=>have h9:¬ s.last=t.last:=(by simpa using h9)
(by rw [jk];intro e;subst e;simp_all)⟩,
 fun h8=>(by rw [jk];intro e;subst e;simp_all)⟩,
 fun h7=>⟨fun h12=>(by rw [jk];intro e;subst e;simp_all),
 fun h12=>⟨fun h13=>have h13:s.last=t.last:=(by simpa using h13)
⟨fun uy=>have uy:s.seq=t.seq:=(by simpa using uy)
⟨fun h15=>have h15:s.ng=t.ng:=(by simpa using h15)
(by rw [D8 (by omega) (by omega) (h7.trans h12.symm) (by omega) (by omega) (by omega) (of_decide_eq_true h3) (of_decide_eq_true h4) (of_decide_eq_true h5) (of_decide_eq_true h6)]),
 fun h15=>have h15:¬ s.ng=t.ng:=(by simpa using h15)
(by rw [jk];intro e;subst e;simp_all)⟩,
 fun uy=>have uy:¬ s.seq=t.seq:=(by simpa using uy)
(by rw [jk];intro e;subst e;simp_all)⟩,
 fun h13=>have h13:¬ s.last=t.last:=(by simpa using h13)
(by rw [jk];intro e;subst e;simp_all)⟩⟩⟩,
 fun h6=>(by rw [jk];intro e;subst e;simp_all)⟩,
 fun h5=>(by rw [jk];intro e;subst e;simp_all)⟩,
 fun h4=>(by rw [jk];intro e;subst e;simp_all)⟩,
 fun h3=>(by rw [jk];intro e;subst e;simp_all)⟩,
 fun h2=>have h2:¬ s.y=t.y:=(by simpa using h2)
(by rw [jk];intro e;subst e;simp_all)⟩,
 fun h1=>have h1:¬ s.a=t.a:=(by simpa using h1)
(by rw [jk];intro e;subst e;simp_all)⟩)
end Go.Proofs.YtbbjlfbemibfcaaGreat.row
end
section
namespace Go.Proofs.YtbbjlfbemibfcaaGreat.book
open Go.RowKit Go.Proofs.YtbbjlfbemibfcaaGreat
open Go.Proofs.YtbbjlfbemibfcaaGreat.order (Or open_ worth)
open Go.Proofs.YtbbjlfbemibfcaaGreat.cell (Ce Ex)
open Go.Proofs.YtbbjlfbemibfcaaGreat.rec (Rc)
set_option maxRecDepth 20000
open Go.Proofs.YtbbjlfbemibfcaaGreat.row (Eu ig whole uo qbv U1 zo iy Cm qlk qoh qkd qph qt0 Ey y9 Ny)
def gL:Ex:=⟨9,9,99⟩
def gS:St:=newS 1 1 gL 99
def gR:Rc:=⟨1,5,0,0,2,3,2,0,0,0,false,0,0⟩
def gT:St:=(do_ gS gR).1
def gB:List Nat:=whole gT
theorem q6u:gL.fine:=by unfold gL Ex.fine frame.jh;simp
theorem q6v:gR.fine:=by unfold gR Rc.fine frame.jh;simp
theorem q6w:frame.jh gT.a∧frame.jh gT.y∧frame.jh gT.last∧frame.jh gT.seq∧frame.jh gT.ng:=by unfold frame.jh;decide +kernel
theorem q86 {w0:World} {D:List Fact} {S:Nat→Prop} {W:World} (hd:Uf w0 D S W):qg Tryz.prog w0 D 20 #[.int .i64 1,.int .i64 1,.agg (cell.xc gL),.int .i64 99] (Dat (fun w S v=>lu w S v gS) S W) (fun x=>.tuple #[.agg (bg x.1.2.2 gS),.int .i64 0]) (fun x=>[C9 x.1.1 x.1.2.1]) :=
 qjx (R:=fun w S v=>lu w S v gS) (r:=fun b=>.tuple #[.agg (bg b gS),.int .i64 0]) hd (fun w hw ha=>(zlm 1 1 gL 99 w (by unfold frame.jh;omega) (by unfold frame.jh;omega) q6u (by unfold frame.jh;omega)).mono (by
  rw [show newV 1 1 gL 99=(gS,0) by decide +kernel]
  rintro e w' ⟨x,rfl,hb,hi⟩
  exact ⟨x,rfl,hb,hi.keep (alike_refl _ _) (fun _ h=>.inr h)⟩))
theorem qid {w0:World} {D:List Fact} {W:World} {t:St} (x:Dat (fun w S v=>lu w S v t) (fun _=>False) W) {i:Nat} (hi:D[i]?=some (C9 x.1.1 x.1.2.1)):Uf w0 D x.1.2.1 x.1.1:=fun w hw ha=>⟨Z4 hi ha,fun k hk=>by
 have h1:=Z4 hi ha k hk
 rw [Array.getElem?_eq_getElem (x.2.2.2 k hk)] at h1
 exact (Array.getElem?_eq_some_iff.1 h1).1⟩
theorem q87 {w0:World} {D:List Fact} {W:World} {t:St} (x:Dat (fun w S v=>lu w S v t) (fun _=>False) W) {i:Nat} (hi:D[i]?=some (C9 x.1.1 x.1.2.1)):∀ w,Below w0.heap.size w0 w→All D w→lu w x.1.2.1 x.1.2.2 t :=
 fun w hw ha=>(x.later (qsx t) (fun k hk=>hk.elim) (Z4 hi ha)).keep (alike_refl _ _) (fun k h=>h.resolve_left id)
section
variable {w0:World} {D:List Fact} {v u:Sv} {g:Nat}
theorem zag {S:Nat→Prop} {W:World} (hd:Uf w0 D S W) (hs:∀ w,Below w0.heap.size w0 w→All D w→lu w S v gS):qg Tryz.prog w0 D 19 #[.agg (bg v gS),.agg (rec.rc gR)] (Dat (fun w S v=>lu w S v gT) S W) (fun x=>.tuple #[.agg (bg x.1.2.2 gT),.int .i64 0]) (fun x=>[C9 x.1.1 x.1.2.1]):=by
 have h:=zlp hd hs q6v
 rw [show (do_ gS gR).2=0 by decide +kernel] at h
 exact h
theorem q88 (hs:∀ w,Below w0.heap.size w0 w→All D w→lu w (Lt w.heap.size) v gT):qg Tryz.prog w0 D 10 #[.agg (bg v gT)] (Option Addr × Nat) (fun x=>.tuple #[.slice x.1 137 x.2,.int .i64 0]) (fun x=>[ah (bf .u8) 1 5 x.1 137 x.2 (ak gB)]):=fun w hw ha=>by
 have h:=qlk v gT w (hs w hw ha)
 rw [show Eu gT=(gB,0) by decide +kernel] at h
 have e:(ak gB).length=137:=by decide +kernel
 simp only [e] at h
 exact h
theorem qpj {A:Option Addr} {c:Nat} {L:List Nat} {s:St} {r:Int} (h:∀ w,Below w0.heap.size w0 w→All D w→ql (bf .u8) 1 w (Lt w.heap.size) A (ak L)∧L.length≤c) (hl:L.length≤1000) (hv:ig L=(s,r)) :
  qg Tryz.prog w0 D 14 #[.slice A (ak L).length c] Sv (fun x=>.tuple #[.agg (bg x s),.int .i64 r]) (fun x=>qbv x s):=fun w hw ha=>by
 obtain ⟨hx,hc⟩:=h w hw ha
 by_cases hm:Ey L
 ·have h0:0 < (ak L).length:=by rw [iy];have:=hm.1;omega
  obtain ⟨b,off,e,_⟩:=hx h0
  subst e
  have:=qoh L b off c w hx hc (by omega)
  rw [hv] at this;exact this
 ·have:=qkd L A c w hx hc (by omega) hm
  rw [hv] at this;exact this
theorem q89 {A:Option Addr} {c:Nat} (h:∀ w,All D w→um (bf .u8) 1 w 0 5 (fun _=>False) A 137 c (ak gB)) :
  qg Tryz.prog w0 D 14 #[.slice A 137 c] Sv (fun x=>.tuple #[.agg (bg x gT),.int .i64 0]) (fun x=>qbv x gT):=by
 have:=qpj (w0:=w0) (D:=D) (A:=A) (c:=c) (L:=gB) (fun w _ ha=>⟨(h w ha).elems (S':=Lt w.heap.size) (pz _) (by decide) (fun _ h=>h.elim) (fun _ _ h=>h),by
  have:=(h w ha).cap.1
  have e:gB.length=137:=by decide +kernel
  omega⟩) (by decide +kernel) (show ig gB=(gT,0) by decide +kernel)
 rw [show (ak gB).length=137 by decide +kernel] at this
 exact this
theorem q6x {A:Option Addr} {c:Nat} (h:∀ w,All D w→um (bf .u8) 1 w 0 5 (fun _=>False) A 137 c (ak gB)) :
  qg Tryz.prog w0 D 14 #[.slice A 136 c] Sv (fun x=>.tuple #[.agg (bg x uo),.int .i64 2]) (fun x=>qbv x uo):=by
 have et:ak (gB.take 136)=(ak gB).take 136:=by simp [ak]
 have:=qpj (w0:=w0) (D:=D) (A:=A) (c:=c) (L:=gB.take 136) (fun w _ ha=>⟨by
  rw [et];exact qgo ((h w ha).elems (S':=Lt w.heap.size) (pz _) (by decide) (fun _ h=>h.elim) (fun _ _ h=>h)) _,by
  have:=(h w ha).cap.1
  have e:(gB.take 136).length=136:=by decide +kernel
  omega⟩) (by decide +kernel) (show ig (gB.take 136)=(uo,2) by decide +kernel)
 rw [show (ak (gB.take 136)).length=136 by decide +kernel] at this
 exact this
theorem q6y (hs:∀ w,Below w0.heap.size w0 w→All D w→lu w (Lt w.heap.size) v gS):iq Tryz.prog w0 D 12 #[.agg (bg v gS)] (.int .i64 76):=fun w hw ha=>by
 have h:=qph v gS w (hs w hw ha)
 rw [show U1 gS=76 by decide +kernel] at h
 exact h
theorem qv5 {s t:St} {b:Bool} (hs:∀ w,Below w0.heap.size w0 w→All D w→lu w (Lt w.heap.size) v s) (ht:∀ w,Below w0.heap.size w0 w→All D w→lu w (Lt w.heap.size) u t) (hb:decide (s=t)=b):iq Tryz.prog w0 D 17 #[.agg (bg v s),.agg (bg u t)] (.bool b):=fun w hw ha=>by
 have h:=qt0 v s u t w (hs w hw ha) (ht w hw ha)
 rw [hb] at h
 exact h
theorem q9a {A:Option Addr} {c:Nat} {t:TypeId} (ht:Tryz.prog.underlying t=some (.slice 5)) (h:∀ w,All D w→um (bf .u8) 1 w 0 5 (fun _=>False) A 137 c (ak gB)) :
  jd Tryz.prog w0 D (Instr.sliceAt t (.slice A 137 c) none (some (.int .i64 136)) none) (.slice A 136 c):=fun w hw ha =>
 qhf (k:=136) ht row.y9 (by have:=(h w ha).cap.1;omega) w
end
theorem q6z   (w:World):Calls Tryz.prog 8 #[] w fun e w'=>e = .returned (.bool true)∧Below w.heap.size w w' :=
 uw (fn:=Tryz.f8) (r:=.bool true) (t:=.cm (Dat (fun w S v=>lu w S v gS) (fun _=>False) w) (fun x=>.tuple #[.agg (bg x.1.2.2 gS),.int .i64 0]) (fun x=>[C9 x.1.1 x.1.2.1]) (fun x1=>.cm (Dat (fun w S v=>lu w S v gT) x1.1.2.1 x1.1.1) (fun x=>.tuple #[.agg (bg x.1.2.2 gT),.int .i64 0]) (fun x=>[C9 x.1.1 x.1.2.1]) (fun x2=>.cm (Option Addr × Nat) (fun x=>.tuple #[.slice x.1 137 x.2,.int .i64 0]) (fun x=>[ah (bf .u8) 1 5 x.1 137 x.2 (ak gB)]) (fun x3=>.cm (Sv) (fun x=>.tuple #[.agg (bg x gT),.int .i64 0]) (fun x=>(yx x gT)) (fun x4=>.k (.x (.slice x3.1 136 x3.2) (.cm (Sv) (fun x=>.tuple #[.agg (bg x uo),.int .i64 2]) (fun x=>(yx x uo)) (fun x5=>.k (.k (.k (.k (.k (.k (.k (.k (.k (.k (.q (au x3.1) (ay x3.1+0 * 1) #[.int .u8 ((ak gB).getD 0 0)] (.s (.k (.q (au x3.1) (ay x3.1+7 * 1) #[.int .u8 ((ak gB).getD 7 0)] (.s (.k (.c (.int .i64 76) (.k (.k (.c (.bool true) (.k (.c (.bool false) .z))))))) (.k (.k (.k .z)))))) (.k (.k (.k (.k .z))))))))))))))))))))))) (X :=
 let k0:=(ak gB).getD 0 0;let k1:=(ak gB).getD 7 0;let k2:=(.bool false:Value) = .bool true;qg Tryz.prog w [] 20 #[.int .i64 1,.int .i64 1,.agg (cell.xc gL),.int .i64 99] (Dat (fun w S v=>lu w S v gS) (fun _=>False) w) (fun x=>.tuple #[.agg (bg x.1.2.2 gS),.int .i64 0]) (fun x=>[C9 x.1.1 x.1.2.1])∧∀ x1:Dat (fun w S v=>lu w S v gS) (fun _=>False) w,let k3:=bg x1.1.2.2 gS;  ∀ g0:Nat,qg Tryz.prog w [C9 x1.1.1 x1.1.2.1] 19 #[.agg k3,.agg (rec.rc gR)] (Dat (fun w S v=>lu w S v gT) x1.1.2.1 x1.1.1) (fun x=>.tuple #[.agg (bg x.1.2.2 gT),.int .i64 0]) (fun x=>[C9 x.1.1 x.1.2.1])∧∀ x2:Dat (fun w S v=>lu w S v gT) x1.1.2.1 x1.1.1,let k4:=bg x2.1.2.2 gT;  ∀ g1:Nat,qg Tryz.prog w [C9 x2.1.1 x2.1.2.1,C9 x1.1.1 x1.1.2.1] 10 #[.agg k4] (Option Addr × Nat) (fun x=>.tuple #[.slice x.1 137 x.2,.int .i64 0]) (fun x=>[ah (bf .u8) 1 5 x.1 137 x.2 (ak gB)])∧∀ x3:Option Addr × Nat,let k5:Value:=.slice x3.1 137 x3.2;qg Tryz.prog w [ah (bf .u8) 1 5 x3.1 137 x3.2 (ak gB),C9 x2.1.1 x2.1.2.1,C9 x1.1.1 x1.1.2.1] 14 #[.slice x3.1 137 x3.2] (Sv) (fun x=>.tuple #[.agg (bg x gT),.int .i64 0]) (fun x=>(yx x gT))∧∀ x4:Sv,let k6:List Fact:=[oO x4.A1 gT.os.length x4.c1 gT.os,oC x4.A2 gT.cs.length x4.c2 gT.cs,oX x4.A3 gT.ls.length x4.c3 gT.ls,oI x4.A4 gT.ps.length x4.c4 gT.ps,ah (bf .u8) 1 5 x3.1 137 x3.2 (ak gB),C9 x2.1.1 x2.1.2.1,C9 x1.1.1 x1.1.2.1];  ∀ g2:Nat,jd Tryz.prog w k6 (Instr.sliceAt 28 k5 none (some (.int .i64 136)) none) (.slice x3.1 136 x3.2)∧qg Tryz.prog w k6 14 #[.slice x3.1 136 x3.2] (Sv) (fun x=>.tuple #[.agg (bg x uo),.int .i64 2]) (fun x=>(yx x uo))∧∀ x5:Sv,let k7:List Fact:=[oO x5.A1 uo.os.length x5.c1 uo.os,oC x5.A2 uo.cs.length x5.c2 uo.cs,oX x5.A3 uo.ls.length x5.c3 uo.ls,oI x5.A4 uo.ps.length x5.c4 uo.ps,oO x4.A1 gT.os.length x4.c1 gT.os,oC x4.A2 gT.cs.length x4.c2 gT.cs,oX x4.A3 gT.ls.length x4.c3 gT.ls,oI x4.A4 gT.ps.length x4.c4 gT.ps,ah (bf .u8) 1 5 x3.1 137 x3.2 (ak gB),C9 x2.1.1 x2.1.2.1,C9 x1.1.1 x1.1.2.1];  ∀ g3:Nat,jd Tryz.prog w k7 (Instr.indexAt 28 k5 (.int .i64 0)) (.pointer (some ⟨au x3.1,ay x3.1+0 * 1,none⟩))∧o7 w k7 (au x3.1) (ay x3.1+0 * 1) #[.int .u8 k0]∧((decide (k0=115))=true→jd Tryz.prog w k7 (Instr.indexAt 28 k5 (.int .i64 7)) (.pointer (some ⟨au x3.1,ay x3.1+7 * 1,none⟩))∧o7 w k7 (au x3.1) (ay x3.1+7 * 1) #[.int .u8 k1]∧((decide (k1=1))=true→iq Tryz.prog w k7 12 #[.agg k3] (.int .i64 76)∧iq Tryz.prog w k7 17 #[.agg k4,.agg (bg x4 gT)] (.bool true)∧iq Tryz.prog w k7 17 #[.agg k3,.agg k4] (.bool false)∧((.bool true:Value) = .bool true))∧((decide (k1=1))=false→k2))∧((decide (k0=115))=false→k2)) Tryz.func8 (by kernel_rfl)
 (⟨q86 (Yi (fun k hk=>hk.elim)),fun x1=>fun g0=>⟨zag (qid x1 (i:=0) rfl) (q87 x1 (i:=0) rfl),fun x2=>fun g1=>⟨(q88 (V4 x2 (qid x1 (i:=1) rfl) (i:=0) rfl)),fun x3=>⟨(q89 (ji (j:=0) rfl)),fun x4=>fun g2=>⟨(q9a Tryz.underlying28 (ji (j:=4) rfl)),⟨(q6x (ji (j:=4) rfl)),fun x5=>fun g3=>⟨(Gn Tryz.underlying28 y9 (ji (j:=8) rfl) (by decide)),(Hw (pz _) (by decide) Ny (ji (j:=8) rfl) (ou (by decide))),⟨fun h6=>have h6:((ak gB).getD 0 0)=115:=(by simpa using h6)
⟨(Gn Tryz.underlying28 y9 (ji (j:=8) rfl) (by decide)),(Hw (pz _) (by decide) Ny (ji (j:=8) rfl) (ou (by decide))),⟨fun h7=>have h7:((ak gB).getD 7 0)=1:=(by simpa using h7)
⟨(q6y (V4 x1 (Yi (fun k hk=>hk.elim)) (i:=10) rfl)),⟨(qv5 (V4 x2 (qid x1 (i:=10) rfl) (i:=9) rfl) (fun w2 _ ha=>Qq (ji (j:=4) rfl w2 ha) (ji (j:=5) rfl w2 ha) (ji (j:=6) rfl w2 ha) (ji (j:=7) rfl w2 ha) q6w) (by decide +kernel)),⟨(qv5 (V4 x1 (Yi (fun k hk=>hk.elim)) (i:=10) rfl) (V4 x2 (qid x1 (i:=10) rfl) (i:=9) rfl) (by decide +kernel)),rfl⟩⟩⟩,
 fun h7=>have h7:¬ ((ak gB).getD 7 0)=1:=(by simpa using h7)
(absurd (show ((ak gB).getD 7 0)=1 by decide +kernel) h7)⟩⟩,
 fun h6=>have h6:¬ ((ak gB).getD 0 0)=115:=(by simpa using h6)
(absurd (show ((ak gB).getD 0 0)=115 by decide +kernel) h6)⟩⟩⟩⟩⟩⟩⟩⟩)
end Go.Proofs.YtbbjlfbemibfcaaGreat.book
end
