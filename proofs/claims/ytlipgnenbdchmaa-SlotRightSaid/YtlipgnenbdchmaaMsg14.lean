/-
  Api03, DiskRef
-/
import Derived.Test.YtlipgnenbdchmaaRows
import Derived.Test.YtlipgnenbdchmaaMsg09
set_option linter.unusedVariables false
set_option linter.unusedSimpArgs false
section
namespace Go.Proofs.Ytlipgnenbdchmaa
set_option maxRecDepth 20000
open Go.RowKit
theorem of_file:OfTrod Try.prog 51 rdFile:=fun H enc w fuel cs x h=>by
 have hl:=struct_len Try.underlying51 h
 rw [show Try.prog.cellsOf 51=3 by kernel_rfl] at hl
 obtain ⟨s,e0,h0⟩:=of_field Try.underlying51 h 0 _ rfl 1 (by kernel_rfl) (of_str Try.underlying9)
 obtain ⟨bs,A,n,c,e1,h1⟩:=of_field Try.underlying51 h 1 _ rfl 1 (by kernel_rfl) (of_bytes Try.underlying27 Try.underlying5 (by kernel_rfl))
 obtain ⟨z,e2,h2⟩:=of_field Try.underlying51 h 2 _ rfl 1 (by kernel_rfl) (of_int Try.underlying3)
 match cs,hl with
 | [c0,c1,c2],_ =>
  simp at e0 e1 e2
  subst e0 e1 e2
  exact ⟨⟨s,bs,z⟩,A,n,c,rfl,h0,h1.1,h1.2.1,h1.2.2.1,h1.2.2.2,h2⟩
theorem of_disk:OfTrod Try.prog 24 rdDisk:=fun H enc w fuel cs x h=>by
 have hl:=struct_len Try.underlying24 h
 rw [show Try.prog.cellsOf 24=4 by kernel_rfl] at hl
 obtain ⟨fs,A,n,c,e0,h0⟩:=of_field Try.underlying24 h 0 _ rfl 1 (by kernel_rfl) (of_slice of_file Try.underlying22 (size:=3) (by kernel_rfl) (by decide))
 obtain ⟨r,e1,h1⟩:=of_field Try.underlying24 h 1 _ rfl 1 (by kernel_rfl) (of_int Try.underlying3)
 obtain ⟨f,e2,h2⟩:=of_field Try.underlying24 h 2 _ rfl 1 (by kernel_rfl) (of_int Try.underlying3)
 obtain ⟨b,e3⟩:=of_field Try.underlying24 h 3 _ rfl 1 (by kernel_rfl) (of_bool Try.underlying4)
 match cs,hl with
 | [c0,c1,c2,c3],_ =>
  simp [rdBool] at e0 e1 e2 e3
  subst e0 e1 e2 e3
  exact ⟨⟨fs,r,f,b⟩,A,n,c,rfl,h0.1,h0.2.1,h0.2.2.1,h0.2.2.2,h1,h2⟩
end Go.Proofs.Ytlipgnenbdchmaa
end
section
namespace Go.Proofs.Ytlipgnenbdchmaa.disk
set_option maxRecDepth 20000
open Go.RowKit
theorem retb {a b:Bool} (h:a=b):Ending.returned (.bool a) = .returned (.bool b):=by rw [h]
theorem reti {k:IntKind} {a b:Int} (h:a=b):Ending.returned (.int k a) = .returned (.int k b):=by rw [h]
theorem take_all {s:ByteArray} {k:Nat} (h:k < s.size) (hp:(s.data.toList.take k).all signOk=true):(s.data.toList.take (k+1)).all signOk=signOk s[k]:=by
 rw [List.take_succ_eq_append_getElem (by simpa using h),List.all_append,hp]
 simp
 rfl
theorem named_no {s:ByteArray} {k:Nat} (h:k < s.size) (hb:signOk s[k]=false):named s=false:=by
 unfold named
 have:s.data.toList.all signOk=false:=by
  rw [List.all_eq_false]
  refine ⟨s[k],?_,by rw [hb];simp⟩
  exact List.getElem_mem (l:=s.data.toList) (by simpa using h)
 rw [this];rfl
theorem sign_cases (c:UInt8):(((c.toNat:Int) != 46)=false∧(c.toNat:Int) < 48∧signOk c=true)∨(((c.toNat:Int) != 46)=true∧(c.toNat:Int) < 48∧signOk c=false)∨(((c.toNat:Int) != 46)=true∧48≤(c.toNat:Int)∧(c.toNat:Int)≤57∧signOk c=true) ∨
  (((c.toNat:Int) != 46)=true∧57 < (c.toNat:Int)∧(c.toNat:Int) < 97∧signOk c=false)∨(((c.toNat:Int) != 46)=true∧97≤(c.toNat:Int)∧(c.toNat:Int)≤122∧signOk c=true)∨(((c.toNat:Int) != 46)=true∧122 < (c.toNat:Int)∧signOk c=false):=by
 unfold signOk
 generalize (c.toNat:Int)=x
 simp only [bne_iff_ne,bne_eq_false_iff_eq,Bool.not_eq_true',Bool.not_eq_false',Bool.and_eq_true,Bool.and_eq_false_iff,Bool.or_eq_true,Bool.or_eq_false_iff,decide_eq_true_eq,decide_eq_false_iff_not,ne_eq]
 omega
theorem named_end {s:ByteArray} (h0:0 < s.size) (h:s.data.toList.all signOk=true):decide ((s.size:Int)≤16)=named s:=by
 unfold named
 rw [h,decide_eq_true h0,Bool.true_and,Bool.true_and,decide_eq_decide]
 omega
theorem named_none {s:ByteArray} (h0:¬ 0 < s.size):false=named s:=by
 unfold named
 rw [decide_eq_false h0]
 simp
theorem rnamed (s:ByteArray) (w:World) (hs:s.size≤maxLen) :
  Calls Try.prog 48 #[.string s] w fun e w'=>e = .returned (.bool (named s))∧w=w':=by
 unfold maxLen at hs
 go_enter Try.func48,Try.ntmps48
 go_wp2
 go_loop [3] (fun i => ∃ k:Nat,k≤s.size∧i = .int .i64 k∧Hid ((s.data.toList.take k).all signOk=true)) (fun i=>s.size - (intOf i).toNat)
 case atStart=>exact ⟨0,Nat.zero_le _,rfl,Lib.hid (by simp)⟩
 case round =>
  obtain ⟨k,hk,rfl,HP⟩:=hrel
  by_cases hlt:k < s.size
  ·have HT:=Lib.hid (take_all hlt HP.out)
   have HN:=Lib.hid (fun h=>named_no (s:=s) hlt h)
   rcases sign_cases s[k] with ⟨h1,h2,h3⟩ | ⟨h1,h2,h3⟩ | ⟨h1,h2,h3,h4⟩ | ⟨h1,h2,h3,h4⟩ | ⟨h1,h2,h3,h4⟩ | ⟨h1,h2,h3⟩
   all_goals
    first
    |have HF:Hid (named s=false):=Lib.hid (HN.out (by assumption))
     clear HT HN
     go_wp2
     go_ret
     exact ⟨retb HF.out.symm,rfl⟩
    |have HF:Hid ((s.data.toList.take (k+1)).all signOk=true):=Lib.hid (by rw [HT.out];assumption)
     clear HT HN
     go_wp2
     go_round
     case rel=>exact ⟨k+1,by omega,by go_num,HF⟩
     case measure=>first | (simp [intOf];done) | (simp [intOf];omega)
  ·have HA:Hid (s.data.toList.all signOk=true):=Lib.hid (by
    have:=HP.out
    rw [List.take_of_length_le (by simp;omega)] at this
    exact this)
   by_cases h0:0 < s.size
   ·go_wp2
    go_ret
    exact ⟨retb (named_end h0 HA.out),rfl⟩
   ·go_wp2
    go_ret
    exact ⟨retb (named_none h0),rfl⟩
theorem used_step {fs:List FileD} {k:Nat} {f:FileD} (h:fs[k]?=some f):used (fs.take (k+1))=used (fs.take k)+f.data.length:=by
 unfold used
 rw [List.take_add_one,h]
 simp
theorem used_take (fs:List FileD) (k:Nat):used (fs.take k)≤used fs:=by
 unfold used
 conv=>rhs;rw [← List.take_append_drop k fs]
 rw [List.map_append,List.sum_append]
 omega
theorem rused (A:Option Addr) (n c:Nat) (room fuse:Int) (down:Bool) (fs:List FileD) (w:World) (hf:Files w w.heap.size A fs) (hn:fs.length=n) (hc:n≤maxLen) (hu:used fs≤9223372036854775807) :
  Calls Try.prog 58 #[.agg #[.slice A n c,.int .i64 room,.int .i64 fuse,.bool down]] w fun e w'=>e = .returned (.int .i64 (used fs:Nat))∧Below w.heap.size w w':=by
 have HN:Hid (fs.length=n):=Lib.hid hn
 clear hn
 unfold maxLen at hc
 have HU:=Lib.hid hu
 clear hu
 go_enter Try.func58,Try.ntmps58
 go_wp2
 go_loop [3,4] (fun t i => ∃ k:Nat,k≤n∧i = .int .i64 k∧t = .int .i64 (used (fs.take k):Nat)) (fun _ i=>n - (intOf i).toNat)
 case atStart=>exact ⟨0,Nat.zero_le _,rfl,by simp [used]⟩
 case round =>
  obtain ⟨k,hk,rfl,rfl⟩:=hrel
  by_cases hlt:k < n
  ·obtain ⟨b,off,f,A',n',c',rfl,hb,HX,cell0,cell1,cell2,q1,q2,q3,q4,q5,q6⟩:=hf.at_ (j:=k) (by rw [HN.out];exact hlt)
   obtain ⟨u,hu⟩:∃ u,Hid (used (fs.take k)=u):=⟨_,Lib.hid rfl⟩
   have hun:u+n'≤9223372036854775807:=by
    have h1:=used_take fs (k+1)
    rw [used_step HX.out,hu.out,q3.out] at h1
    have:=HU.out
    omega
   rw [hu.out]
   have hne:b≠w.heap.size:=by omega
   have HS:Hid (used (fs.take (k+1))=u+n'):=Lib.hid (by rw [used_step HX.out,hu.out,q3.out])
   go_wp2
   go_round
   case rel=>exact ⟨k+1,by omega,by go_num,by rw [HS.out];go_num⟩
   case measure=>first | (simp [intOf];done) | (simp [intOf];omega)
  ·have HE:Hid (used (fs.take k)=used fs):=Lib.hid (by rw [List.take_of_length_le (by rw [HN.out];omega)])
   rw [HE.out]
   go_wp2
   go_ret
   exact ⟨rfl,(Below.refl _ _).alloc (Nat.le_refl _) _⟩
theorem find_step {fs:List FileD} {k:Nat} {f:FileD} {nm:ByteArray} (h:fs[k]?=some f):findFrom nm (fs.drop k) k=if sameName f.name nm then some k else findFrom nm (fs.drop (k+1)) (k+1):=by
 obtain ⟨hk,rfl⟩:=List.getElem?_eq_some_iff.1 h
 rw [List.drop_eq_getElem_cons hk]
 rfl
theorem rfind (A:Option Addr) (n c:Nat) (room fuse:Int) (down:Bool) (nm:ByteArray) (fs:List FileD) (w:World) (hf:Files w w.heap.size A fs) (hn:fs.length=n) (hc:n≤maxLen) :
  Calls Try.prog 35 #[.agg #[.slice A n c,.int .i64 room,.int .i64 fuse,.bool down],.string nm] w fun e w'=>e = .returned (.int .i64 (findI fs nm))∧Below w.heap.size w w':=by
 have HN:Hid (fs.length=n):=Lib.hid hn
 clear hn
 unfold maxLen at hc
 go_enter Try.func35,Try.ntmps35
 go_wp2
 go_loop [5] (fun i => ∃ k:Nat,k≤n∧i = .int .i64 k∧Hid (findFrom nm fs 0=findFrom nm (fs.drop k) k)) (fun i=>n - (intOf i).toNat)
 case atStart=>exact ⟨0,Nat.zero_le _,rfl,Lib.hid (by simp)⟩
 case round =>
  obtain ⟨k,hk,rfl,HF⟩:=hrel
  by_cases hlt:k < n
  ·obtain ⟨b,off,f,A',n',c',rfl,hb,HX,cell0,cell1,cell2,q1,q2,q3,q4,q5,q6⟩:=hf.at_ (j:=k) (by rw [HN.out];exact hlt)
   have hne:b≠w.heap.size:=by omega
   by_cases hs:sameName f.name nm=true
   ·have HE:Hid (findI fs nm=(k:Int)):=Lib.hid (by unfold findI;rw [HF.out,find_step HX.out,if_pos hs])
    have hs' : (f.name.toList == nm.toList)=true:=hs
    clear hs
    go_wp2
    go_ret
    exact ⟨reti HE.out.symm,(Below.refl _ _).alloc (Nat.le_refl _) _⟩
   ·have HE:Hid (findFrom nm fs 0=findFrom nm (fs.drop (k+1)) (k+1)):=Lib.hid (by rw [HF.out,find_step HX.out,if_neg hs])
    have hs' : (f.name.toList == nm.toList)=false:=by simpa [sameName] using hs
    clear hs
    go_wp2
    go_round
    case rel=>exact ⟨k+1,by omega,by go_num,HE⟩
    case measure=>first | (simp [intOf];done) | (simp [intOf];omega)
  ·have HE:Hid (findI fs nm = -1):=Lib.hid (by unfold findI;rw [HF.out,List.drop_of_length_le (by rw [HN.out];omega)];rfl)
   go_wp2
   go_ret
   exact ⟨reti HE.out.symm,(Below.refl _ _).alloc (Nat.le_refl _) _⟩
end Go.Proofs.Ytlipgnenbdchmaa.disk
end
