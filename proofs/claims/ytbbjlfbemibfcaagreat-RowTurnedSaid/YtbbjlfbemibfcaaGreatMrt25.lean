/-
  LowN, LimImplH, BookR1, Api10
-/
import Derived.Test.YtbbjlfbemibfcaaGreatMrt09
import Derived.Test.YtbbjlfbemibfcaaGreatMrt24
import Derived.Test.YtbbjlfbemibfcaaGreatMrt23
import Derived.Test.YtbbjlfbemibfcaaGreatMrt17
import Derived.Test.YtbbjlfbemibfcaaGreatMrt14
import Derived.Test.YtbbjlfbemibfcaaGreatMrt16
import Derived.Test.YtbbjlfbemibfcaaGreatMrt15
import Derived.Test.YtbbjlfbemibfcaaGreatMrt27
set_option linter.unusedVariables false
set_option linter.unusedSimpArgs false
section
namespace Go.Proofs.YtbbjlfbemibfcaaGreat.book
set_option maxRecDepth 20000
open Go.RowKit Go.Proofs.YtbbjlfbemibfcaaGreat
variable {w0:World} {D:List Fact}
def addE (a b:Int):Int:=if inI (a+b) then 0 else 3
def subE (a b:Int):Int:=if inI (a - b) then 0 else 3
def subV (a b:Int):Int:=if inI (a - b) then a - b else 0
def mulE (a b:Int):Int:=if inI (a * b) then 0 else 3
def mulV (a b:Int):Int:=if inI (a * b) then a * b else 0
theorem mulV_in (a b:Int):inI (mulV a b):=by unfold mulV;split;assumption;unfold inI;omega
theorem subV_in (a b:Int):inI (subV a b):=by unfold subV;split;assumption;unfold inI;omega
theorem addE_iff {a b:Int} : addE a b=0 ↔ inI (a+b):=by unfold addE;split<;>simp_all
theorem subE_iff {a b:Int} : subE a b=0 ↔ inI (a - b):=by unfold subE;split<;>simp_all
theorem mulE_iff {a b:Int} : mulE a b=0 ↔ inI (a * b):=by unfold mulE;split<;>simp_all
theorem n_add {a b:Int} (ha:inI a) (hb:inI b):Gives Tryz.prog w0 D 95 #[.int .i64 a,.int .i64 b] (.tuple #[.int .i64 (addV a b),.int .i64 (addE a b)]):=by
 unfold addV addE
 by_cases h:inI (a+b)
 ·rw [if_pos h,if_pos h];exact gives_same (fun w=>num.add_ok a b w ha hb h)
 ·rw [if_neg h,if_neg h];exact gives_same (fun w=>num.add_over a b w ha hb h)
theorem n_sub {a b:Int} (ha:inI a) (hb:inI b):Gives Tryz.prog w0 D 115 #[.int .i64 a,.int .i64 b] (.tuple #[.int .i64 (subV a b),.int .i64 (subE a b)]):=by
 unfold subV subE
 by_cases h:inI (a - b)
 ·rw [if_pos h,if_pos h];exact gives_same (fun w=>num.sub_ok a b w ha hb h)
 ·rw [if_neg h,if_neg h];exact gives_same (fun w=>num.sub_over a b w ha hb h)
theorem mul_n {a b:Int} (ha:inI a) (hb:inI b):Gives Tryz.prog w0 D 133 #[.int .i64 a,.int .i64 b] (.tuple #[.int .i64 (mulV a b),.int .i64 (mulE a b)]):=by
 unfold mulV mulE
 by_cases h:inI (a * b)
 ·rw [if_pos h,if_pos h];exact gives_same (fun w=>num.mul_ok a b w ha hb h)
 ·rw [if_neg h,if_neg h];exact gives_same (fun w=>num.mul_over a b w ha hb h)
theorem n_max {a b:Int} (ha:inI a) (hb:inI b):Gives Tryz.prog w0 D 134 #[.int .i64 a,.int .i64 b] (.int .i64 (max a b)):=gives_same (fun w=>num.max_any a b w ha hb)
end Go.Proofs.YtbbjlfbemibfcaaGreat.book
end
section
namespace Go.Proofs.YtbbjlfbemibfcaaGreat.limit
open Go.RowKit Go.Proofs.YtbbjlfbemibfcaaGreat Go.Proofs.YtbbjlfbemibfcaaGreat.cell Go.Proofs.YtbbjlfbemibfcaaGreat.num
set_option maxRecDepth 20000
def opens (k:Nat) (xs:List Ce):List Int:=(xs.map Ce.n).take k++List.replicate (xs.length - k) 0
theorem opens_zero (xs:List Ce):opens 0 xs=List.replicate xs.length 0:=rfl
theorem opens_end {xs:List Ce} {k:Nat} (h:xs.length≤k):opens k xs=xs.map Ce.n:=by
 unfold opens
 rw [List.take_of_length_le (by simpa using h),Nat.sub_eq_zero_of_le h]
 simp
theorem opens_set {xs:List Ce} {k:Nat} (h:k < xs.length):(opens k xs).set k ((xs.getD k cell.cz).n)=opens (k+1) xs:=by
 unfold opens
 have e:xs.length - k=(xs.length - (k+1))+1:=by omega
 have hl:((xs.map Ce.n).take k).length=k:=by simp;omega
 rw [List.set_append,if_neg (by omega),hl,Nat.sub_self,e,List.replicate_succ,List.set_cons_zero]
 rw [List.take_add_one,List.getElem?_map,at_getD (z:=cell.cz) h]
 simp
theorem wf_of {k:Int} (h:inI k):(Lit.int .i64 k).wf=true:=by
 simpa [Lit.wf,IntKind.min,IntKind.max,IntKind.signed,IntKind.bits,inI] using h
theorem gives_total {w0:World} {D:List Fact} {j:Nat} {A:Option Addr} {n c:Nat} {ys:List Int} {s e:Int} (h:D[j]?=some (ownF (rdInt .i64) 1 2 A n c ys)) (hy:ys.length=n) (hw:(num.totV (num.tot 0 ys),num.totE (num.tot 0 ys))=(s,e)) (hm:n≤100):Gives Tryz.prog w0 D 96 #[.slice A n c] (.tuple #[.int .i64 s,.int .i64 e]):=by
 intro w _ ha
 have hi:=(ints_own (row_at h w ha)).ints
 simp only [Prod.mk.injEq] at hw
 rw [← hw.1,← hw.2]
 exact (num.total_any A n c _ ys w hi hy (by omega)).mono (by rintro e w' ⟨rfl,rfl⟩;exact ⟨rfl,Below.refl _ _⟩)
theorem whole_is (A:Option Addr) (n c B:Nat) (xs:List Ce) {s e:Int} (w:World) (hx:Cls w B A xs) (hB:B≤w.heap.size) (hn:xs.length=n) (hm:n≤100) (h:whole xs=(s,e))  : Calls Tryz.prog 71 #[.slice A n c] w fun e' w'=>e' = .returned (.tuple #[.int .i64 s,.int .i64 e])∧Below w.heap.size w w' :=
 have hf:∀ k,k < n→inI (xs.getD k cell.cz).n:=fun k hk=>(hx.fine _ (List.mem_of_getElem? (at_getD (by omega)))).2.2.2
 calls_by (fn:=Tryz.f71) (r:=.tuple #[.int .i64 s,.int .i64 e]) (t:=.w (Nat) none (fun x=>.slice (some ⟨x,0,none⟩) n n) (fun x=>[oI (some ⟨x,0,none⟩) n n (List.replicate n 0)]) (fun x1=>let k0:Option Addr:=some ⟨x1,0,none⟩; .l (Nat) (fun x=>[(4,.slice k0 n n,none),(10,.slice A n c,none),(11,.int .i64 (n:Int),none),(12,.int .i64 (x:Int),none)]) (fun x=>[]) [] [] (fun x=>[oI k0 n n (opens x xs)]) (fun x=>x≤n) (fun x=>n - x) (0:Nat) (fun y2=>.s (.p (blkA A) (offA A+y2 * 4) (cell.cc (xs.getD y2 cell.cz)) (.x (.pointer (some ⟨blkA k0,offA k0+y2 * 1,none⟩)) (.w (Unit) (some 0) (fun x=>undef) (fun x=>[oI k0 n n (opens (y2+1) xs)]) (fun x6=>.e (.int .i64 ((y2+1:Nat):Int)) .z)))) (.c (.tuple #[.int .i64 s,.int .i64 e]) .z)))) (X :=
 let k0:=List.replicate n 0;let k1:Array Value:=#[.int .i64 s,.int .i64 e];let k2:=([]:List (Option Blk));StepM Tryz.prog w [] (Instr.makeSlice 25 (.int .i64 (n:Int)) (.int .i64 (n:Int))) (fun _=>False) (Nat) (fun x=>.slice (some ⟨x,0,none⟩) n n) (fun x=>[oI (some ⟨x,0,none⟩) n n k0])∧∀ x1:Nat,let k3:Option Addr:=some ⟨x1,0,none⟩;Brings w [oI k3 n n k0] []∧((0:Nat)≤n)∧(([.slice k3 n n,.slice A n c,.int .i64 (n:Int),.int .i64 0]:List Value)=[.slice k3 n n,.slice A n c,.int .i64 (n:Int),.int .i64 ((0:Nat):Int)]∧k2=[]∧Turns w [oI k3 n n k0] [oI k3 n n (opens (0:Nat) xs)])∧true=true∧∀ (y2:Nat),let k4:Value:=.pointer (some ⟨blkA k3,offA k3+y2 * 1,none⟩);let k5:=decide ((y2:Int) < (n:Int));(y2≤n)→∀ τ4:Nat→Value,(k5=true→Yields0 Tryz.prog w [oI k3 n n (opens y2 xs)] (Instr.indexAt 23 (.slice A n c) (.int .i64 (y2:Int))) (.pointer (some ⟨blkA A,offA A+y2 * 4,none⟩))∧Reads0 w [] (blkA A) (offA A+y2 * 4) (cell.cc (xs.getD y2 cell.cz))∧∀ g1:Nat,Yields0 Tryz.prog w [oI k3 n n (opens y2 xs)] (Instr.indexAt 25 (.slice k3 n n) (.int .i64 (y2:Int))) k4∧StepU Tryz.prog w [oI k3 n n (opens y2 xs)] (Instr.storeAt 2 k4 (.int .i64 ((xs.getD y2 cell.cz).n))) ((oI k3 n n (opens y2 xs)).S) (Unit) (fun x=>undef) (fun x=>[oI k3 n n (opens (y2+1) xs)])∧∀ x6:Unit,(.int .i64 (IntKind.i64.wrap ((y2:Int)+1)):Value) = .int .i64 ((y2+1:Nat):Int)∧∃ x' : Nat,(x'≤n)∧(n - x' < n - y2)∧(([.slice k3 n n,.slice A n c,.int .i64 (n:Int),.int .i64 ((y2+1:Nat):Int)]:List Value)=[.slice k3 n n,.slice A n c,.int .i64 (n:Int),.int .i64 (x' : Int)]∧k2=[]∧Turns w [oI k3 n n (opens (y2+1) xs)] [oI k3 n n (opens x' xs)])∧true=true)∧(k5=false→Gives Tryz.prog w [oI k3 n n (opens y2 xs)] 96 #[.slice k3 n n] (.tuple k1)∧(.tuple k1:Value) = .tuple k1)) Tryz.func71 (by kernel_rfl)
 (⟨(make_int Tryz.underlying25 info_i64 (by omega) (by unfold maxLen;omega)),fun x1=>⟨(fun w _ _=>news_nil),(Nat.zero_le _),⟨rfl,rfl,(turns_sub (sub_one (by rw [opens_zero,hn])))⟩,rfl,fun y2 I3 τ4=>⟨fun h5=>have h5:(y2:Int) < (n:Int):=(by simpa using h5)
⟨(low_index Tryz.underlying23 info_cell cell_cells hB hx hn (by omega)),(low_reads cell_cells hB hx (at_getD (by rw [hn];exact (by omega)))),fun g1=>⟨(own_index Tryz.underlying25 info_i64 (row_at (j:=0) rfl) (by omega)),⟨(step_to (opens_set (by omega)) (store_int (row_at (j:=0) rfl) (by omega) (wf_of (hf _ (by omega))) rfl)),fun x6=>⟨wrap_is (by omega) (by omega) (by omega),⟨((y2+1):Nat),(by omega),(by omega),⟨rfl,rfl,(turns_sub (.cons_cons _ (List.nil_sublist _)))⟩,rfl⟩⟩⟩⟩⟩,
 fun h5=>have h5:¬ (y2:Int) < (n:Int):=(by simpa using h5)
⟨gives_total (j:=0) rfl (by rw [opens_end (by omega)];simpa using hn) (by rw [opens_end (by omega)];exact h) hm,rfl⟩⟩⟩⟩)
end Go.Proofs.YtbbjlfbemibfcaaGreat.limit
end
section
namespace Go.Proofs.YtbbjlfbemibfcaaGreat.book
open Go.RowKit Go.Proofs.YtbbjlfbemibfcaaGreat
open Go.Proofs.YtbbjlfbemibfcaaGreat.order (Or open_ worth)
open Go.Proofs.YtbbjlfbemibfcaaGreat.cell (Ce Ex)
open Go.Proofs.YtbbjlfbemibfcaaGreat.rec (Rc)
set_option maxRecDepth 20000
theorem same_yes {s t:St} (h1:s.a=t.a) (h2:s.y=t.y) (h3:s.k=t.k) (h4:s.last=t.last) (h5:s.seq=t.seq) (h6:s.lsn=t.lsn) (h7:s.os=t.os) (h8:s.cs=t.cs) (h9:s.ls=t.ls) (h10:s.ps=t.ps):decide (s=t)=true:=by
 obtain ⟨a,y,os,cs,ls,ps,k,last,seq,lsn⟩:=s
 obtain ⟨a',y',os',cs',ls',ps',k',last',seq',lsn'⟩:=t
 simp only at h1 h2 h3 h4 h5 h6 h7 h8 h9 h10
 subst h1 h2 h3 h4 h5 h6 h7 h8 h9 h10
 simp
theorem same_no {s t:St} (h:¬ s=t):decide (s=t)=false:=decide_eq_false h
theorem rshort (v:Sv) (s:St)  (w:World):Calls Tryz.prog 9 #[.agg (stc v s)] w fun e w'=>e = .returned (.bool (short s))∧Below w.heap.size w w' :=
 calls_by (fn:=Tryz.f9) (r:=.bool (short s)) (t:=.s (.k (.s (.k (.s (.k (.s .z .z)) (.k .z))) (.k (.k .z)))) (.k (.k (.k .z)))) (X :=
 let k0:=(.bool false:Value);let k1:=decide ((s.os.length:Int)≤70);let k2:=decide ((s.cs.length:Int)≤70);let k3:=decide ((s.ls.length:Int)≤70);let k4:=decide ((s.ps.length:Int)≤70); ∀ g0:Nat,(k1=true→(k2=true→(k3=true→(k4=true→(.bool true:Value) = .bool (short s))∧(k4=false→k0 = .bool (short s)))∧(k3=false→k0 = .bool (short s)))∧(k2=false→k0 = .bool (short s)))∧(k1=false→k0 = .bool (short s))) Tryz.func9 (by kernel_rfl)
 (fun g0=>⟨fun h1=>have h1:¬ 70 < (s.os.length:Int):=(by simpa using h1)
⟨fun h2=>have h2:¬ 70 < (s.cs.length:Int):=(by simpa using h2)
⟨fun h3=>have h3:¬ 70 < (s.ls.length:Int):=(by simpa using h3)
⟨fun h4=>have h4:¬ 70 < (s.ps.length:Int):=(by simpa using h4)
(by unfold short;congr 1;symm;simp only [decide_eq_true_eq,decide_eq_false_iff_not];omega),
 fun h4=>have h4:70 < (s.ps.length:Int):=(by simpa using h4)
(by unfold short;congr 1;symm;simp only [decide_eq_true_eq,decide_eq_false_iff_not];omega)⟩,
 fun h3=>have h3:70 < (s.ls.length:Int):=(by simpa using h3)
(by unfold short;congr 1;symm;simp only [decide_eq_true_eq,decide_eq_false_iff_not];omega)⟩,
 fun h2=>have h2:70 < (s.cs.length:Int):=(by simpa using h2)
(by unfold short;congr 1;symm;simp only [decide_eq_true_eq,decide_eq_false_iff_not];omega)⟩,
 fun h1=>have h1:70 < (s.os.length:Int):=(by simpa using h1)
(by unfold short;congr 1;symm;simp only [decide_eq_true_eq,decide_eq_false_iff_not];omega)⟩)
end Go.Proofs.YtbbjlfbemibfcaaGreat.book
end
section
namespace Go.Proofs.YtbbjlfbemibfcaaGreat
set_option maxRecDepth 20000
open Go.RowKit
abbrev StateD:Type:=book.St
def rdState:Rd StateD:=fun w S cs s => ∃ v:Sv,cs=(stc v s).toList∧InS w S v s
theorem of_state:OfTrod Tryz.prog 27 rdState:=fun H enc w fuel cs x h=>by
 have hl:=struct_len Tryz.underlying27 h
 rw [show Tryz.prog.cellsOf 27=10 by kernel_rfl] at hl
 obtain ⟨a,e0,h0⟩:=of_field Tryz.underlying27 h 0 _ rfl 1 (by kernel_rfl) (of_int Tryz.underlying3)
 obtain ⟨y,e1,h1⟩:=of_field Tryz.underlying27 h 1 _ rfl 1 (by kernel_rfl) (of_int Tryz.underlying3)
 obtain ⟨os,A1,n1,c1,e2,h2⟩:=of_field Tryz.underlying27 h 2 _ rfl 1 (by kernel_rfl) (of_slice of_order Tryz.underlying22 (size:=12) (by kernel_rfl) (by decide))
 obtain ⟨cs',A2,n2,c2,e3,h3⟩:=of_field Tryz.underlying27 h 3 _ rfl 1 (by kernel_rfl) (of_slice of_cell Tryz.underlying23 (size:=4) (by kernel_rfl) (by decide))
 obtain ⟨ls,A3,n3,c3,e4,h4⟩:=of_field Tryz.underlying27 h 4 _ rfl 1 (by kernel_rfl) (of_slice of_expo Tryz.underlying24 (size:=3) (by kernel_rfl) (by decide))
 obtain ⟨ps,A4,n4,c4,e5,h5⟩:=of_field Tryz.underlying27 h 5 _ rfl 1 (by kernel_rfl) (of_slice (of_int Tryz.underlying2) Tryz.underlying25 (size:=1) (by kernel_rfl) (by decide))
 obtain ⟨k,e6⟩:=of_field Tryz.underlying27 h 6 _ rfl 1 (by kernel_rfl) (of_bool Tryz.underlying4)
 obtain ⟨l,e7,h7⟩:=of_field Tryz.underlying27 h 7 _ rfl 1 (by kernel_rfl) (of_int Tryz.underlying2)
 obtain ⟨q,e8,h8⟩:=of_field Tryz.underlying27 h 8 _ rfl 1 (by kernel_rfl) (of_int Tryz.underlying2)
 obtain ⟨n,e9,h9⟩:=of_field Tryz.underlying27 h 9 _ rfl 1 (by kernel_rfl) (of_int Tryz.underlying2)
 obtain ⟨g2,rfl,i2,j2⟩:=h2
 obtain ⟨g3,rfl,i3,j3⟩:=h3
 obtain ⟨g4,rfl,i4,j4⟩:=h4
 obtain ⟨g5,rfl,i5,j5⟩:=h5
 match cs,hl with
 | [d0,d1,d2,d3,d4,d5,d6,d7,d8,d9],_ =>
  simp [rdBool] at e0 e1 e2 e3 e4 e5 e6 e7 e8 e9
  subst e0 e1 e2 e3 e4 e5 e6 e7 e8 e9
  exact ⟨⟨a,y,os,cs',ls,ps,k,l,q,n⟩,⟨A1,c1,A2,c2,A3,c3,A4,c4⟩,rfl,⟨g2,g3,g4,g5,⟨i2,j2⟩,⟨i3,j3⟩,⟨i4,j4⟩,⟨i5,j5⟩,inI_of_wf h0,inI_of_wf h1,inI_of_wf h7,inI_of_wf h8,inI_of_wf h9⟩⟩
end Go.Proofs.YtbbjlfbemibfcaaGreat
end
