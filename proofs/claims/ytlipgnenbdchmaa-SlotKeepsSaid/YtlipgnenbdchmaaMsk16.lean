/-
  Api03, DiskRef, DiskRef2, DiskRef3, DiskRef4, DiskRef5, DiskRef6, DiskRef7
-/
import Derived.Test.YtlipgnenbdchmaaRows
import Derived.Test.YtlipgnenbdchmaaMsk09
import Derived.Test.YtlipgnenbdchmaaMsk18
set_option linter.unusedVariables false
set_option linter.unusedSimpArgs false
section
namespace Go.Proofs.Ytlipgnenbdchmaa
set_option maxRecDepth 20000
open Go.RowKit
theorem of_file:OfTrod Try.prog 51 rdFile:=fun H enc w fuel cs x h=>by
 have hl:=struct_len Try.underlying51 h
 rw [show Try.prog.cellsOf 51=3 by kernel_rfl] at hl
 obtain ⟨s,e0,h0⟩:=of_field Try.underlying51 h 0 _ rfl 1 (by kernel_rfl) (of_str Try.underlying9)
 obtain ⟨bs,A,n,c,e1,h1⟩:=of_field Try.underlying51 h 1 _ rfl 1 (by kernel_rfl) (of_bytes Try.underlying27 Try.underlying5 (by kernel_rfl))
 obtain ⟨z,e2,h2⟩:=of_field Try.underlying51 h 2 _ rfl 1 (by kernel_rfl) (of_int Try.underlying3)
 match cs,hl with
 | [c0,c1,c2],_ =>
  simp at e0 e1 e2
  subst e0 e1 e2
  exact ⟨⟨s,bs,z⟩,A,n,c,rfl,h0,h1.1,h1.2.1,h1.2.2.1,h1.2.2.2,h2⟩
theorem of_disk:OfTrod Try.prog 24 rdDisk:=fun H enc w fuel cs x h=>by
 have hl:=struct_len Try.underlying24 h
 rw [show Try.prog.cellsOf 24=4 by kernel_rfl] at hl
 obtain ⟨fs,A,n,c,e0,h0⟩:=of_field Try.underlying24 h 0 _ rfl 1 (by kernel_rfl) (of_slice of_file Try.underlying22 (size:=3) (by kernel_rfl) (by decide))
 obtain ⟨r,e1,h1⟩:=of_field Try.underlying24 h 1 _ rfl 1 (by kernel_rfl) (of_int Try.underlying3)
 obtain ⟨f,e2,h2⟩:=of_field Try.underlying24 h 2 _ rfl 1 (by kernel_rfl) (of_int Try.underlying3)
 obtain ⟨b,e3⟩:=of_field Try.underlying24 h 3 _ rfl 1 (by kernel_rfl) (of_bool Try.underlying4)
 match cs,hl with
 | [c0,c1,c2,c3],_ =>
  simp [rdBool] at e0 e1 e2 e3
  subst e0 e1 e2 e3
  exact ⟨⟨fs,r,f,b⟩,A,n,c,rfl,h0.1,h0.2.1,h0.2.2.1,h0.2.2.2,h1,h2⟩
end Go.Proofs.Ytlipgnenbdchmaa
end
section
namespace Go.Proofs.Ytlipgnenbdchmaa.disk
set_option maxRecDepth 20000
open Go.RowKit
theorem retb {a b:Bool} (h:a=b):Ending.returned (.bool a) = .returned (.bool b):=by rw [h]
theorem reti {k:IntKind} {a b:Int} (h:a=b):Ending.returned (.int k a) = .returned (.int k b):=by rw [h]
theorem take_all {s:ByteArray} {k:Nat} (h:k < s.size) (hp:(s.data.toList.take k).all signOk=true):(s.data.toList.take (k+1)).all signOk=signOk s[k]:=by
 rw [List.take_succ_eq_append_getElem (by simpa using h),List.all_append,hp]
 simp
 rfl
theorem named_no {s:ByteArray} {k:Nat} (h:k < s.size) (hb:signOk s[k]=false):named s=false:=by
 unfold named
 have:s.data.toList.all signOk=false:=by
  rw [List.all_eq_false]
  refine ⟨s[k],?_,by rw [hb];simp⟩
  exact List.getElem_mem (l:=s.data.toList) (by simpa using h)
 rw [this];rfl
theorem sign_cases (c:UInt8):(((c.toNat:Int) != 46)=false∧(c.toNat:Int) < 48∧signOk c=true)∨(((c.toNat:Int) != 46)=true∧(c.toNat:Int) < 48∧signOk c=false)∨(((c.toNat:Int) != 46)=true∧48≤(c.toNat:Int)∧(c.toNat:Int)≤57∧signOk c=true) ∨
  (((c.toNat:Int) != 46)=true∧57 < (c.toNat:Int)∧(c.toNat:Int) < 97∧signOk c=false)∨(((c.toNat:Int) != 46)=true∧97≤(c.toNat:Int)∧(c.toNat:Int)≤122∧signOk c=true)∨(((c.toNat:Int) != 46)=true∧122 < (c.toNat:Int)∧signOk c=false):=by
 unfold signOk
 generalize (c.toNat:Int)=x
 simp only [bne_iff_ne,bne_eq_false_iff_eq,Bool.not_eq_true',Bool.not_eq_false',Bool.and_eq_true,Bool.and_eq_false_iff,Bool.or_eq_true,Bool.or_eq_false_iff,decide_eq_true_eq,decide_eq_false_iff_not,ne_eq]
 omega
theorem used_step {fs:List FileD} {k:Nat} {f:FileD} (h:fs[k]?=some f):used (fs.take (k+1))=used (fs.take k)+f.data.length:=by
 unfold used
 rw [List.take_add_one,h]
 simp
theorem used_take (fs:List FileD) (k:Nat):used (fs.take k)≤used fs:=by
 unfold used
 conv=>rhs;rw [← List.take_append_drop k fs]
 rw [List.map_append,List.sum_append]
 omega
end Go.Proofs.Ytlipgnenbdchmaa.disk
end
section
namespace Go.Proofs.Ytlipgnenbdchmaa.disk
set_option maxRecDepth 20000
open Go.RowKit
theorem right_no {d:DiskD} (h:goodFrom none d.files=false):false=rightB d:=by unfold rightB;rw [h];simp
end Go.Proofs.Ytlipgnenbdchmaa.disk
end
section
namespace Go.Proofs.Ytlipgnenbdchmaa.disk
set_option maxRecDepth 20000
open Go.RowKit
end Go.Proofs.Ytlipgnenbdchmaa.disk
end
section
namespace Go.Proofs.Ytlipgnenbdchmaa.disk
set_option maxRecDepth 20000
open Go.RowKit
theorem short_no {fs:List FileD} {k:Nat} {f:FileD} (h:fs[k]?=some f) (hb:shortFile f=false):false=shortB fs:=by
 unfold shortB
 have:fs.all shortFile=false:=by
  rw [List.all_eq_false]
  exact ⟨f,List.mem_of_getElem? h,by simp [hb]⟩
 rw [this];simp
theorem short_take {fs:List FileD} {k:Nat} {f:FileD} (h:fs[k]?=some f) (hp:(fs.take k).all shortFile=true) (hb:shortFile f=true):(fs.take (k+1)).all shortFile=true:=by
 rw [List.take_add_one,h,List.all_append,hp]
 simp [hb]
set_option maxHeartbeats 4000000 in
theorem rshort (A:Option Addr) (n c:Nat) (room fuse:Int) (down:Bool) (fs:List FileD) (w:World) (hf:Files w w.heap.size A fs) (hn:fs.length=n) (hc:n≤maxLen) :
  Calls Try.prog 7 #[.agg #[.slice A n c,.int .i64 room,.int .i64 fuse,.bool down]] w fun e w'=>e = .returned (.bool (shortB fs))∧Below w.heap.size w w':=by
 have HN:Hid (fs.length=n):=Lib.hid hn
 clear hn
 unfold maxLen at hc
 by_cases hbig:70 < n
 ·have HP:Hid (false=shortB fs):=Lib.hid (by symm;unfold shortB;rw [HN.out];simp;omega)
  go_enter Try.func7,Try.ntmps7
  go_wp2
  go_ret
  exact ⟨retb HP.out,(Below.refl _ _).alloc (Nat.le_refl _) _⟩
 go_enter Try.func7,Try.ntmps7
 go_wp2
 go_loop [3,4] (fun t i => ∃ k u:Nat,k≤n∧i = .int .i64 k∧t = .int .i64 u∧Hid (used (fs.take k)=u)∧u≤70000 * k∧Hid ((fs.take k).all shortFile=true)) (fun _ i=>n - (intOf i).toNat)
 case atStart=>exact ⟨0,0,Nat.zero_le _,rfl,rfl,Lib.hid rfl,by omega,Lib.hid (by simp)⟩
 case round =>
  obtain ⟨k,u,hk,rfl,rfl,HU,hu,HA⟩:=hrel
  by_cases hlt:k < n
  ·obtain ⟨b,off,f,A',n',c',rfl,hb,HX,cell0,cell1,cell2,q1,q2,q3,q4,q5,q6⟩:=hf.at_ (j:=k) (by rw [HN.out];exact hlt)
   have hne:b≠w.heap.size:=by omega
   unfold maxLen at q1
   rcases (show 70000 < n'∨(n'≤70000∧100 < f.name.size)∨(n'≤70000∧f.name.size≤100) by omega) with s1 | ⟨s1,s2⟩ | ⟨s1,s2⟩
   ·have HP:Hid (false=shortB fs):=Lib.hid (short_no HX.out (by unfold shortFile;rw [q3.out];simp;omega))
    go_wp2
    go_ret
    exact ⟨retb HP.out,(Below.refl _ _).alloc (Nat.le_refl _) _⟩
   ·have HP:Hid (false=shortB fs):=Lib.hid (short_no HX.out (by unfold shortFile;rw [q3.out];simp;omega))
    go_wp2
    go_ret
    exact ⟨retb HP.out,(Below.refl _ _).alloc (Nat.le_refl _) _⟩
   ·have HS:Hid (used (fs.take (k+1))=u+n'):=Lib.hid (by rw [used_step HX.out,HU.out,q3.out])
    have HA2:Hid ((fs.take (k+1)).all shortFile=true):=Lib.hid (short_take HX.out HA.out (by unfold shortFile;rw [q3.out];simp;omega))
    go_wp2
    go_round
    case rel=>exact ⟨k+1,u+n',by omega,by go_num,by go_num,HS,by omega,HA2⟩
    case measure=>first | (simp [intOf];done) | (simp [intOf];omega)
  ·have HE:Hid (decide ((u:Int)≤70000)=shortB fs):=Lib.hid (by
    have h1:=HA.out
    have h2:=HU.out
    rw [List.take_of_length_le (by rw [HN.out];omega)] at h1 h2
    unfold shortB
    rw [h1,h2,HN.out,decide_eq_true (show n≤70 by omega),Bool.true_and,Bool.true_and,decide_eq_decide]
    omega)
   go_wp2
   go_ret
   exact ⟨retb HE.out,(Below.refl _ _).alloc (Nat.le_refl _) _⟩
end Go.Proofs.Ytlipgnenbdchmaa.disk
end
section
namespace Go.Proofs.Ytlipgnenbdchmaa.disk
set_option maxRecDepth 20000
open Go.RowKit
end Go.Proofs.Ytlipgnenbdchmaa.disk
end
section
namespace Go.Proofs.Ytlipgnenbdchmaa.disk
set_option maxRecDepth 20000
open Go.RowKit
end Go.Proofs.Ytlipgnenbdchmaa.disk
end
section
namespace Go.Proofs.Ytlipgnenbdchmaa.disk
set_option maxRecDepth 20000
open Go.RowKit
def RetOp (S:Nat→Prop) (w:World) (r:DiskD × Int) (e:Ending) (w' : World):Prop :=
 ∃ A n c,e = .returned (.tuple #[.agg #[.slice A n c,.int .i64 r.1.room,.int .i64 r.1.fuse,.bool r.1.down],.int .i64 r.2])∧FilesIn w' (Out S w w') A r.1.files∧Hid (r.1.files.length=n)∧n≤c∧c≤maxLen∧Below w.heap.size w w'
def RetBytes (S:Nat→Prop) (w:World) (r:List Nat × Int) (e:Ending) (w' : World):Prop :=
 ∃ A n c,e = .returned (.tuple #[.slice A n c,.int .i64 r.2])∧BysIn w' (Out S w w') A r.1∧Hid (r.1.length=n)∧n≤c∧c≤maxLen∧Below w.heap.size w w'
theorem op_first {d:DiskD} {a b:ByteArray} {pre x:Int} {fs:List FileD} {app:Bool} (h:firstE d a b=x) (hx:x≠0):opD d a b pre fs app=(d,x):=by unfold opD;rw [h,if_pos hx]
theorem op_pre {d:DiskD} {a b:ByteArray} {pre y:Int} {fs:List FileD} {app:Bool} (h:firstE d a b=0) (hp:pre=y) (hy:y≠0):opD d a b pre fs app=(d,y):=by unfold opD;rw [h,if_neg (by simp),hp,if_pos hy]
theorem op_down {d:DiskD} {a b:ByteArray} {pre:Int} {fs:List FileD} {app:Bool} (h:firstE d a b=0) (hp:pre=0) (hf:d.fuse=0):opD d a b pre fs app=(⟨if app then fs else d.files,d.room,0,true⟩,9):=by
 unfold opD;rw [h,if_neg (by simp),hp,if_neg (by simp),if_pos hf,hf]
theorem op_done {d:DiskD} {a b:ByteArray} {pre f2:Int} {fs:List FileD} {app:Bool} (h:firstE d a b=0) (hp:pre=0) (hf:d.fuse≠0) (h2:(if 0 < d.fuse then d.fuse - 1 else d.fuse)=f2):opD d a b pre fs app=(⟨fs,d.room,f2,d.down⟩,0):=by
 unfold opD;rw [h,if_neg (by simp),hp,if_neg (by simp),if_neg hf,h2]
end Go.Proofs.Ytlipgnenbdchmaa.disk
end
