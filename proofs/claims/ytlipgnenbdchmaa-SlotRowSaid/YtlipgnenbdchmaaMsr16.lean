/-
  Api03, DiskRef, DiskRef2, DiskRef3, DiskRef4, DiskRef5, DiskRef6, DiskRef7
-/
import Derived.Test.YtlipgnenbdchmaaRows
import Derived.Test.YtlipgnenbdchmaaMsr09
import Derived.Test.YtlipgnenbdchmaaMsr18
set_option linter.unusedVariables false
set_option linter.unusedSimpArgs false
section
namespace Go.Proofs.Ytlipgnenbdchmaa
set_option maxRecDepth 20000
open Go.RowKit
end Go.Proofs.Ytlipgnenbdchmaa
end
section
namespace Go.Proofs.Ytlipgnenbdchmaa.disk
set_option maxRecDepth 20000
open Go.RowKit
theorem retb {a b:Bool} (h:a=b):Ending.returned (.bool a) = .returned (.bool b):=by rw [h]
theorem reti {k:IntKind} {a b:Int} (h:a=b):Ending.returned (.int k a) = .returned (.int k b):=by rw [h]
theorem take_all {s:ByteArray} {k:Nat} (h:k < s.size) (hp:(s.data.toList.take k).all signOk=true):(s.data.toList.take (k+1)).all signOk=signOk s[k]:=by
 rw [List.take_succ_eq_append_getElem (by simpa using h),List.all_append,hp]
 simp
 rfl
theorem named_no {s:ByteArray} {k:Nat} (h:k < s.size) (hb:signOk s[k]=false):named s=false:=by
 unfold named
 have:s.data.toList.all signOk=false:=by
  rw [List.all_eq_false]
  refine ⟨s[k],?_,by rw [hb];simp⟩
  exact List.getElem_mem (l:=s.data.toList) (by simpa using h)
 rw [this];rfl
theorem sign_cases (c:UInt8):(((c.toNat:Int) != 46)=false∧(c.toNat:Int) < 48∧signOk c=true)∨(((c.toNat:Int) != 46)=true∧(c.toNat:Int) < 48∧signOk c=false)∨(((c.toNat:Int) != 46)=true∧48≤(c.toNat:Int)∧(c.toNat:Int)≤57∧signOk c=true) ∨
  (((c.toNat:Int) != 46)=true∧57 < (c.toNat:Int)∧(c.toNat:Int) < 97∧signOk c=false)∨(((c.toNat:Int) != 46)=true∧97≤(c.toNat:Int)∧(c.toNat:Int)≤122∧signOk c=true)∨(((c.toNat:Int) != 46)=true∧122 < (c.toNat:Int)∧signOk c=false):=by
 unfold signOk
 generalize (c.toNat:Int)=x
 simp only [bne_iff_ne,bne_eq_false_iff_eq,Bool.not_eq_true',Bool.not_eq_false',Bool.and_eq_true,Bool.and_eq_false_iff,Bool.or_eq_true,Bool.or_eq_false_iff,decide_eq_true_eq,decide_eq_false_iff_not,ne_eq]
 omega
theorem used_step {fs:List FileD} {k:Nat} {f:FileD} (h:fs[k]?=some f):used (fs.take (k+1))=used (fs.take k)+f.data.length:=by
 unfold used
 rw [List.take_add_one,h]
 simp
theorem used_take (fs:List FileD) (k:Nat):used (fs.take k)≤used fs:=by
 unfold used
 conv=>rhs;rw [← List.take_append_drop k fs]
 rw [List.map_append,List.sum_append]
 omega
end Go.Proofs.Ytlipgnenbdchmaa.disk
end
section
namespace Go.Proofs.Ytlipgnenbdchmaa.disk
set_option maxRecDepth 20000
open Go.RowKit
theorem right_no {d:DiskD} (h:goodFrom none d.files=false):false=rightB d:=by unfold rightB;rw [h];simp
end Go.Proofs.Ytlipgnenbdchmaa.disk
end
section
namespace Go.Proofs.Ytlipgnenbdchmaa.disk
set_option maxRecDepth 20000
open Go.RowKit
end Go.Proofs.Ytlipgnenbdchmaa.disk
end
section
namespace Go.Proofs.Ytlipgnenbdchmaa.disk
set_option maxRecDepth 20000
open Go.RowKit
end Go.Proofs.Ytlipgnenbdchmaa.disk
end
section
namespace Go.Proofs.Ytlipgnenbdchmaa.disk
set_option maxRecDepth 20000
open Go.RowKit
end Go.Proofs.Ytlipgnenbdchmaa.disk
end
section
namespace Go.Proofs.Ytlipgnenbdchmaa.disk
set_option maxRecDepth 20000
open Go.RowKit
end Go.Proofs.Ytlipgnenbdchmaa.disk
end
section
namespace Go.Proofs.Ytlipgnenbdchmaa.disk
set_option maxRecDepth 20000
open Go.RowKit
def RetOp (S:Nat→Prop) (w:World) (r:DiskD × Int) (e:Ending) (w' : World):Prop :=
 ∃ A n c,e = .returned (.tuple #[.agg #[.slice A n c,.int .i64 r.1.room,.int .i64 r.1.fuse,.bool r.1.down],.int .i64 r.2])∧FilesIn w' (Out S w w') A r.1.files∧Hid (r.1.files.length=n)∧n≤c∧c≤maxLen∧Below w.heap.size w w'
def RetBytes (S:Nat→Prop) (w:World) (r:List Nat × Int) (e:Ending) (w' : World):Prop :=
 ∃ A n c,e = .returned (.tuple #[.slice A n c,.int .i64 r.2])∧BysIn w' (Out S w w') A r.1∧Hid (r.1.length=n)∧n≤c∧c≤maxLen∧Below w.heap.size w w'
theorem op_first {d:DiskD} {a b:ByteArray} {pre x:Int} {fs:List FileD} {app:Bool} (h:firstE d a b=x) (hx:x≠0):opD d a b pre fs app=(d,x):=by unfold opD;rw [h,if_pos hx]
theorem op_pre {d:DiskD} {a b:ByteArray} {pre y:Int} {fs:List FileD} {app:Bool} (h:firstE d a b=0) (hp:pre=y) (hy:y≠0):opD d a b pre fs app=(d,y):=by unfold opD;rw [h,if_neg (by simp),hp,if_pos hy]
theorem op_down {d:DiskD} {a b:ByteArray} {pre:Int} {fs:List FileD} {app:Bool} (h:firstE d a b=0) (hp:pre=0) (hf:d.fuse=0):opD d a b pre fs app=(⟨if app then fs else d.files,d.room,0,true⟩,9):=by
 unfold opD;rw [h,if_neg (by simp),hp,if_neg (by simp),if_pos hf,hf]
theorem op_done {d:DiskD} {a b:ByteArray} {pre f2:Int} {fs:List FileD} {app:Bool} (h:firstE d a b=0) (hp:pre=0) (hf:d.fuse≠0) (h2:(if 0 < d.fuse then d.fuse - 1 else d.fuse)=f2):opD d a b pre fs app=(⟨fs,d.room,f2,d.down⟩,0):=by
 unfold opD;rw [h,if_neg (by simp),hp,if_neg (by simp),if_neg hf,h2]
end Go.Proofs.Ytlipgnenbdchmaa.disk
end
