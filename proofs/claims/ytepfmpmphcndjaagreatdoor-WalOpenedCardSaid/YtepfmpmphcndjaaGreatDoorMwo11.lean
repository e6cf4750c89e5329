/-
  Api03, DiskRef, DiskRef2, DiskRef3, DiskRef4, DiskRef5, DiskRef6
-/
import Derived.Test.YtepfmpmphcndjaaGreatDoorRows
import Derived.Test.YtepfmpmphcndjaaGreatDoorMwo04
import Derived.Test.YtepfmpmphcndjaaGreatDoorMwo05
set_option linter.unusedVariables false
set_option linter.unusedSimpArgs false
section
namespace Go.Proofs.YtepfmpmphcndjaaGreatDoor
set_option maxRecDepth 20000
open Go.RowKit
theorem of_file:OfTrod Tryz.prog 79 rdFile:=fun H enc w fuel cs x h=>by
 have hl:=struct_len Tryz.underlying79 h
 rw [show Tryz.prog.cellsOf 79=3 by kernel_rfl] at hl
 obtain ⟨s,e0,h0⟩:=of_field Tryz.underlying79 h 0 _ rfl 1 (by kernel_rfl) (of_str Tryz.underlying9)
 obtain ⟨bs,A,n,c,e1,h1⟩:=of_field Tryz.underlying79 h 1 _ rfl 1 (by kernel_rfl) (of_bytes Tryz.underlying62 Tryz.underlying5 (by kernel_rfl))
 obtain ⟨z,e2,h2⟩:=of_field Tryz.underlying79 h 2 _ rfl 1 (by kernel_rfl) (of_int Tryz.underlying3)
 match cs,hl with
 | [c0,c1,c2],_ =>
  simp at e0 e1 e2
  subst e0 e1 e2
  exact ⟨⟨s,bs,z⟩,A,n,c,rfl,h0,h1.1,h1.2.1,h1.2.2.1,h1.2.2.2,h2⟩
theorem of_disk:OfTrod Tryz.prog 27 rdDisk:=fun H enc w fuel cs x h=>by
 have hl:=struct_len Tryz.underlying27 h
 rw [show Tryz.prog.cellsOf 27=4 by kernel_rfl] at hl
 obtain ⟨fs,A,n,c,e0,h0⟩:=of_field Tryz.underlying27 h 0 _ rfl 1 (by kernel_rfl) (of_slice of_file Tryz.underlying25 (size:=3) (by kernel_rfl) (by decide))
 obtain ⟨r,e1,h1⟩:=of_field Tryz.underlying27 h 1 _ rfl 1 (by kernel_rfl) (of_int Tryz.underlying3)
 obtain ⟨f,e2,h2⟩:=of_field Tryz.underlying27 h 2 _ rfl 1 (by kernel_rfl) (of_int Tryz.underlying3)
 obtain ⟨b,e3⟩:=of_field Tryz.underlying27 h 3 _ rfl 1 (by kernel_rfl) (of_bool Tryz.underlying4)
 match cs,hl with
 | [c0,c1,c2,c3],_ =>
  simp [rdBool] at e0 e1 e2 e3
  subst e0 e1 e2 e3
  exact ⟨⟨fs,r,f,b⟩,A,n,c,rfl,h0.1,h0.2.1,h0.2.2.1,h0.2.2.2,h1,h2⟩
end Go.Proofs.YtepfmpmphcndjaaGreatDoor
end
section
namespace Go.Proofs.YtepfmpmphcndjaaGreatDoor.disk
set_option maxRecDepth 20000
open Go.RowKit
theorem retb {a b:Bool} (h:a=b):Ending.returned (.bool a) = .returned (.bool b):=by rw [h]
theorem reti {k:IntKind} {a b:Int} (h:a=b):Ending.returned (.int k a) = .returned (.int k b):=by rw [h]
theorem take_all {s:ByteArray} {k:Nat} (h:k < s.size) (hp:(s.data.toList.take k).all signOk=true):(s.data.toList.take (k+1)).all signOk=signOk s[k]:=by
 rw [List.take_succ_eq_append_getElem (by simpa using h),List.all_append,hp]
 simp
 rfl
theorem named_no {s:ByteArray} {k:Nat} (h:k < s.size) (hb:signOk s[k]=false):named s=false:=by
 unfold named
 have:s.data.toList.all signOk=false:=by
  rw [List.all_eq_false]
  refine ⟨s[k],?_,by rw [hb];simp⟩
  exact List.getElem_mem (l:=s.data.toList) (by simpa using h)
 rw [this];rfl
theorem sign_cases (c:UInt8):(((c.toNat:Int) != 46)=false∧(c.toNat:Int) < 48∧signOk c=true)∨(((c.toNat:Int) != 46)=true∧(c.toNat:Int) < 48∧signOk c=false)∨(((c.toNat:Int) != 46)=true∧48≤(c.toNat:Int)∧(c.toNat:Int)≤57∧signOk c=true) ∨
  (((c.toNat:Int) != 46)=true∧57 < (c.toNat:Int)∧(c.toNat:Int) < 97∧signOk c=false)∨(((c.toNat:Int) != 46)=true∧97≤(c.toNat:Int)∧(c.toNat:Int)≤122∧signOk c=true)∨(((c.toNat:Int) != 46)=true∧122 < (c.toNat:Int)∧signOk c=false):=by
 unfold signOk
 generalize (c.toNat:Int)=x
 simp only [bne_iff_ne,bne_eq_false_iff_eq,Bool.not_eq_true',Bool.not_eq_false',Bool.and_eq_true,Bool.and_eq_false_iff,Bool.or_eq_true,Bool.or_eq_false_iff,decide_eq_true_eq,decide_eq_false_iff_not,ne_eq]
 omega
theorem named_end {s:ByteArray} (h0:0 < s.size) (h:s.data.toList.all signOk=true):decide ((s.size:Int)≤16)=named s:=by
 unfold named
 rw [h,decide_eq_true h0,Bool.true_and,Bool.true_and,decide_eq_decide]
 omega
theorem named_none {s:ByteArray} (h0:¬ 0 < s.size):false=named s:=by
 unfold named
 rw [decide_eq_false h0]
 simp
theorem rnamed (s:ByteArray) (w:World) (hs:s.size≤maxLen) :
  Calls Tryz.prog 84 #[.string s] w fun e w'=>e = .returned (.bool (named s))∧w=w':=by
 unfold maxLen at hs
 go_enter Tryz.func84,Tryz.ntmps84
 go_wp2
 go_loop [3] (fun i => ∃ k:Nat,k≤s.size∧i = .int .i64 k∧Hid ((s.data.toList.take k).all signOk=true)) (fun i=>s.size - (intOf i).toNat)
 case atStart=>exact ⟨0,Nat.zero_le _,rfl,Lib.hid (by simp)⟩
 case round =>
  obtain ⟨k,hk,rfl,HP⟩:=hrel
  by_cases hlt:k < s.size
  ·have HT:=Lib.hid (take_all hlt HP.out)
   have HN:=Lib.hid (fun h=>named_no (s:=s) hlt h)
   rcases sign_cases s[k] with ⟨h1,h2,h3⟩ | ⟨h1,h2,h3⟩ | ⟨h1,h2,h3,h4⟩ | ⟨h1,h2,h3,h4⟩ | ⟨h1,h2,h3,h4⟩ | ⟨h1,h2,h3⟩
   all_goals
    first
    |have HF:Hid (named s=false):=Lib.hid (HN.out (by assumption))
     clear HT HN
     go_wp2
     go_ret
     exact ⟨retb HF.out.symm,rfl⟩
    |have HF:Hid ((s.data.toList.take (k+1)).all signOk=true):=Lib.hid (by rw [HT.out];assumption)
     clear HT HN
     go_wp2
     go_round
     case rel=>exact ⟨k+1,by omega,by go_num,HF⟩
     case measure=>first | (simp [intOf];done) | (simp [intOf];omega)
  ·have HA:Hid (s.data.toList.all signOk=true):=Lib.hid (by
    have:=HP.out
    rw [List.take_of_length_le (by simp;omega)] at this
    exact this)
   by_cases h0:0 < s.size
   ·go_wp2
    go_ret
    exact ⟨retb (named_end h0 HA.out),rfl⟩
   ·go_wp2
    go_ret
    exact ⟨retb (named_none h0),rfl⟩
theorem used_step {fs:List FileD} {k:Nat} {f:FileD} (h:fs[k]?=some f):used (fs.take (k+1))=used (fs.take k)+f.data.length:=by
 unfold used
 rw [List.take_add_one,h]
 simp
theorem used_take (fs:List FileD) (k:Nat):used (fs.take k)≤used fs:=by
 unfold used
 conv=>rhs;rw [← List.take_append_drop k fs]
 rw [List.map_append,List.sum_append]
 omega
theorem find_step {fs:List FileD} {k:Nat} {f:FileD} {nm:ByteArray} (h:fs[k]?=some f):findFrom nm (fs.drop k) k=if sameName f.name nm then some k else findFrom nm (fs.drop (k+1)) (k+1):=by
 obtain ⟨hk,rfl⟩:=List.getElem?_eq_some_iff.1 h
 rw [List.drop_eq_getElem_cons hk]
 rfl
theorem rfind (A:Option Addr) (n c:Nat) (room fuse:Int) (down:Bool) (nm:ByteArray) (fs:List FileD) (w:World) (hf:Files w w.heap.size A fs) (hn:fs.length=n) (hc:n≤maxLen) :
  Calls Tryz.prog 70 #[.agg #[.slice A n c,.int .i64 room,.int .i64 fuse,.bool down],.string nm] w fun e w'=>e = .returned (.int .i64 (findI fs nm))∧Below w.heap.size w w':=by
 have HN:Hid (fs.length=n):=Lib.hid hn
 clear hn
 unfold maxLen at hc
 go_enter Tryz.func70,Tryz.ntmps70
 go_wp2
 go_loop [5] (fun i => ∃ k:Nat,k≤n∧i = .int .i64 k∧Hid (findFrom nm fs 0=findFrom nm (fs.drop k) k)) (fun i=>n - (intOf i).toNat)
 case atStart=>exact ⟨0,Nat.zero_le _,rfl,Lib.hid (by simp)⟩
 case round =>
  obtain ⟨k,hk,rfl,HF⟩:=hrel
  by_cases hlt:k < n
  ·obtain ⟨b,off,f,A',n',c',rfl,hb,HX,cell0,cell1,cell2,q1,q2,q3,q4,q5,q6⟩:=hf.at_ (j:=k) (by rw [HN.out];exact hlt)
   have hne:b≠w.heap.size:=by omega
   by_cases hs:sameName f.name nm=true
   ·have HE:Hid (findI fs nm=(k:Int)):=Lib.hid (by unfold findI;rw [HF.out,find_step HX.out,if_pos hs])
    have hs' : (f.name.toList == nm.toList)=true:=hs
    clear hs
    go_wp2
    go_ret
    exact ⟨reti HE.out.symm,(Below.refl _ _).alloc (Nat.le_refl _) _⟩
   ·have HE:Hid (findFrom nm fs 0=findFrom nm (fs.drop (k+1)) (k+1)):=Lib.hid (by rw [HF.out,find_step HX.out,if_neg hs])
    have hs' : (f.name.toList == nm.toList)=false:=by simpa [sameName] using hs
    clear hs
    go_wp2
    go_round
    case rel=>exact ⟨k+1,by omega,by go_num,HE⟩
    case measure=>first | (simp [intOf];done) | (simp [intOf];omega)
  ·have HE:Hid (findI fs nm = -1):=Lib.hid (by unfold findI;rw [HF.out,List.drop_of_length_le (by rw [HN.out];omega)];rfl)
   go_wp2
   go_ret
   exact ⟨reti HE.out.symm,(Below.refl _ _).alloc (Nat.le_refl _) _⟩
end Go.Proofs.YtepfmpmphcndjaaGreatDoor.disk
end
section
namespace Go.Proofs.YtepfmpmphcndjaaGreatDoor.disk
set_option maxRecDepth 20000
open Go.RowKit
theorem rnamed_is (s:ByteArray) (b:Bool) (w:World) (hs:s.size≤maxLen) (h:named s=b) :
  Calls Tryz.prog 84 #[.string s] w fun e w'=>e = .returned (.bool b)∧w=w':=by
 rw [← h];exact rnamed s w hs
theorem good_step {fs:List FileD} {k:Nat} {f:FileD} (h:fs[k]?=some f) (p:Option ByteArray) :
  goodFrom p (fs.drop k)=(fileOk f && (match p with | none=>true | some q => !upTo f.name q) && goodFrom (prevName fs (k+1)) (fs.drop (k+1))):=by
 have e:prevName fs (k+1)=some f.name:=by simp [prevName,h]
 obtain ⟨hk,rfl⟩:=List.getElem?_eq_some_iff.1 h
 rw [e,List.drop_eq_getElem_cons hk]
 rfl
theorem file_cases (f:FileD) {n:Nat} (hn:f.data.length=n):(named f.name=false∧fileOk f=false)∨(named f.name=true∧f.sure < 0∧fileOk f=false)∨(named f.name=true∧0≤f.sure∧(n:Int) < f.sure∧fileOk f=false) ∨
  (named f.name=true∧0≤f.sure∧f.sure≤(n:Int)∧65536 < n∧fileOk f=false)∨(named f.name=true∧0≤f.sure∧f.sure≤(n:Int)∧n≤65536∧fileOk f=true):=by
 unfold fileOk
 rw [hn]
 cases h:named f.name
 ·simp
 ·simp only [Bool.true_and,Bool.and_eq_true,Bool.and_eq_false_iff,decide_eq_true_eq,decide_eq_false_iff_not]
  simp
  omega
theorem right_no {d:DiskD} (h:goodFrom none d.files=false):false=rightB d:=by unfold rightB;rw [h];simp
set_option maxHeartbeats 4000000 in
theorem rright (A:Option Addr) (n c:Nat) (room fuse:Int) (down:Bool) (fs:List FileD) (w:World) (hf:Files w w.heap.size A fs) (hn:fs.length=n) (hc:n≤maxLen) (hr:inI room) (hfu:inI fuse) :
  Calls Tryz.prog 46 #[.agg #[.slice A n c,.int .i64 room,.int .i64 fuse,.bool down]] w fun e w'=>e = .returned (.bool (rightB ⟨fs,room,fuse,down⟩))∧Below w.heap.size w w':=by
 have HN:Hid (fs.length=n):=Lib.hid hn
 clear hn
 unfold maxLen at hc
 unfold inI at hr hfu
 have hpre:(room < 0∨65536 < room∨fuse < -1∨64 < n)→false=rightB ⟨fs,room,fuse,down⟩:=by
  intro h
  symm
  unfold rightB
  rw [HN.out]
  simp only [Bool.and_eq_false_iff,decide_eq_false_iff_not]
  omega
 rcases (show room < 0∨(0≤room∧65536 < room)∨(0≤room∧room≤65536∧fuse < -1)∨(0≤room∧room≤65536 ∧ -1≤fuse∧64 < n)∨(0≤room∧room≤65536 ∧ -1≤fuse∧n≤64) by omega) with h1 | ⟨h1,h2⟩ | ⟨h1,h2,h3⟩ | ⟨h1,h2,h3,h4⟩ | ⟨h1,h2,h3,h4⟩
 ·have HP:=Lib.hid (hpre (.inl h1))
  clear hpre
  go_enter Tryz.func46,Tryz.ntmps46
  go_wp2
  go_ret
  exact ⟨retb HP.out,(Below.refl _ _).alloc (Nat.le_refl _) _⟩
 ·have HP:=Lib.hid (hpre (.inr (.inl h2)))
  clear hpre
  go_enter Tryz.func46,Tryz.ntmps46
  go_wp2
  go_ret
  exact ⟨retb HP.out,(Below.refl _ _).alloc (Nat.le_refl _) _⟩
 ·have HP:=Lib.hid (hpre (.inr (.inr (.inl h3))))
  clear hpre
  go_enter Tryz.func46,Tryz.ntmps46
  go_wp2
  go_ret
  exact ⟨retb HP.out,(Below.refl _ _).alloc (Nat.le_refl _) _⟩
 ·have HP:=Lib.hid (hpre (.inr (.inr (.inr h4))))
  clear hpre
  go_enter Tryz.func46,Tryz.ntmps46
  go_wp2
  go_ret
  exact ⟨retb HP.out,(Below.refl _ _).alloc (Nat.le_refl _) _⟩
 ·clear hpre
  have HR:Hid (goodFrom none fs=false→false=rightB ⟨fs,room,fuse,down⟩):=Lib.hid (fun h=>right_no h)
  go_enter Tryz.func46,Tryz.ntmps46
  go_wp2
  go_loopw [3,4] (fun t i wr => ∃ k:Nat,k≤n∧i = .int .i64 k∧(∃ u:Nat,t = .int .i64 u∧Hid (used (fs.take k)=u)∧u≤65536 * k)∧Hid (goodFrom none fs=goodFrom (prevName fs k) (fs.drop k)) ∧
   wr.cell? ⟨w.heap.size,0,none⟩=some (.slice A n c)∧wr.cell? ⟨w.heap.size,1,none⟩=some (.int .i64 room)∧Below w.heap.size w wr∧w.heap.size+1≤wr.heap.size) (fun _ i _=>n - (intOf i).toNat)
  case atStart=>exact ⟨0,Nat.zero_le _,rfl,⟨0,rfl,Lib.hid rfl,by omega⟩,Lib.hid (by simp [prevName]),by simp,by simp,(Below.refl _ _).alloc (Nat.le_refl _) _,by simp⟩
  case round =>
   obtain ⟨k,hk,rfl,⟨u,rfl,HU,hu⟩,HG,cell,cellr,hbr,hsz⟩:=hrel
   by_cases hlt:k < n
   ·obtain ⟨b,off,f,A',n',c',rfl,hb,HX,cell0,cell1,cell2,q1,q2,q3,q4,q5,q6⟩:=(hf.below hbr).at_ (j:=k) (by rw [HN.out];exact hlt)
    have HK:Hid (∀ W',Below wr.heap.size wr W'→W'.cell? ⟨w.heap.size,0,none⟩=some (.slice (some ⟨b,off,none⟩) n c)∧W'.cell? ⟨w.heap.size,1,none⟩=some (.int .i64 room)∧Below w.heap.size w W'∧w.heap.size+1≤W'.heap.size) :=
     Lib.hid (fun W' hb'=>⟨(hb'.cell (p:=⟨w.heap.size,0,none⟩) (by show w.heap.size < _;omega)).trans cell,(hb'.cell (p:=⟨w.heap.size,1,none⟩) (by show w.heap.size < _;omega)).trans cellr,hbr.trans (hb'.mono (by omega)),by have:=hb'.size;omega⟩)
    have HS:Hid (used (fs.take (k+1))=u+n'):=Lib.hid (by rw [used_step HX.out,HU.out,q3.out])
    have hne:b≠w.heap.size:=by omega
    have hlt1:w.heap.size < wr.heap.size:=by omega
    have hlt2:b < wr.heap.size:=by omega
    rcases file_cases f q3.out with ⟨m1,m2⟩ | ⟨m1,s1,m2⟩ | ⟨m1,s1,s2,m2⟩ | ⟨m1,s1,s2,s3,m2⟩ | ⟨m1,s1,s2,s3,m2⟩
    case inr.inr.inr.inr =>
     have M1:=Lib.hid m1
     have M2:=Lib.hid m2
     clear m1 m2
     rcases k with _ | k
     ·simp only [Nat.zero_mul,Nat.add_zero] at cell0 cell1 cell2
      have HG2:Hid (goodFrom none fs=goodFrom (prevName fs 1) (fs.drop 1)):=Lib.hid (by rw [HG.out,good_step HX.out,M2.out];rfl)
      go_wp2_with ((with_reducible refine (rnamed_is f.name _ _ q1 M1.out).mono ?_);rintro e w' ⟨rfl,rfl⟩)
      go_quiet (fail)
      go_wp2
      go_roundw
      case rel =>
       refine ⟨1,by omega,rfl,⟨u+n',by go_num,HS,by omega⟩,HG2,?_⟩
       refine HK.out _ ?_
       repeat (first | exact Below.refl _ _ | refine below_drewN ?_ _ | refine Below.drew ?_ | refine Below.setCell ?_ (by simp) _ | refine Below.alloc ?_ (by simp) _)
      case measure=>first | (simp [intOf];done) | (simp [intOf];omega)
     ·have ek:((k+1:Nat):Int)=(k:Int)+1:=by omega
      rw [ek]
      clear ek
      obtain ⟨b2,off2,g,A2,n2,c2,e2,hb2,HX2,pcell0,_,_,_,_,_,_,_,_⟩:=(hf.below hbr).at_ (j:=k) (by rw [HN.out];omega)
      simp only [Option.some.injEq,Addr.mk.injEq,and_true] at e2
      obtain ⟨rfl,rfl⟩:=e2
      by_cases hup:upTo f.name g.name=true
      ·have HE:Hid (false=rightB ⟨fs,room,fuse,down⟩):=Lib.hid (HR.out (by rw [HG.out,good_step HX.out,M2.out];simp [prevName,HX2.out,hup]))
       have hup' : (Op.bytesLess f.name.toList g.name.toList || f.name.toList == g.name.toList)=true:=hup
       clear hup
       go_wp2_with ((with_reducible refine (rnamed_is f.name _ _ q1 M1.out).mono ?_);rintro e w' ⟨rfl,rfl⟩)
       go_quiet (fail)
       go_wp2
       go_ret
       refine ⟨retb HE.out,(HK.out _ ?_).2.2.1⟩
       repeat (first | exact Below.refl _ _ | refine below_drewN ?_ _ | refine Below.drew ?_ | refine Below.setCell ?_ (by simp) _ | refine Below.alloc ?_ (by simp) _)
      ·have hup' : (Op.bytesLess f.name.toList g.name.toList || f.name.toList == g.name.toList)=false:=by simpa [upTo] using hup
       have HG2:Hid (goodFrom none fs=goodFrom (prevName fs (k+1+1)) (fs.drop (k+1+1))):=Lib.hid (by rw [HG.out,good_step HX.out,M2.out];simp [prevName,HX2.out,hup])
       clear hup
       go_wp2_with ((with_reducible refine (rnamed_is f.name _ _ q1 M1.out).mono ?_);rintro e w' ⟨rfl,rfl⟩)
       go_quiet (fail)
       go_wp2
       go_roundw
       case rel =>
        refine ⟨k+1+1,by omega,by go_num,⟨u+n',by go_num,HS,by omega⟩,HG2,?_⟩
        refine HK.out _ ?_
        repeat (first | exact Below.refl _ _ | refine below_drewN ?_ _ | refine Below.drew ?_ | refine Below.setCell ?_ (by simp) _ | refine Below.alloc ?_ (by simp) _)
       case measure=>first | (simp [intOf];done) | (simp [intOf];omega)
    all_goals
     have HE:=Lib.hid (HR.out (by rw [HG.out,good_step HX.out,m2];rfl))
     have M1:=Lib.hid m1
     clear m1 m2
     go_wp2_with ((with_reducible refine (rnamed_is f.name _ _ q1 M1.out).mono ?_);rintro e w' ⟨rfl,rfl⟩)
     go_ret
     refine ⟨retb HE.out,?_⟩
     refine (HK.out _ ?_).2.2.1
     repeat (first | exact Below.refl _ _ | refine below_drewN ?_ _ | refine Below.drew ?_ | refine Below.setCell ?_ (by simp) _ | refine Below.alloc ?_ (by simp) _)
   ·have HE:Hid (decide ((u:Int)≤room)=rightB ⟨fs,room,fuse,down⟩):=Lib.hid (by
     have hg:=HG.out
     rw [List.drop_of_length_le (by rw [HN.out];omega)] at hg
     have hg' : goodFrom none fs=true:=by rw [hg];cases prevName fs k<;>rfl
     have hu':=HU.out
     rw [List.take_of_length_le (by rw [HN.out];omega)] at hu'
     unfold rightB
     rw [hg',hu',HN.out]
     simp [h1,h2,h3,h4])
    go_wp2
    go_ret
    exact ⟨retb HE.out,hbr⟩
end Go.Proofs.YtepfmpmphcndjaaGreatDoor.disk
end
section
namespace Go.Proofs.YtepfmpmphcndjaaGreatDoor.disk
set_option maxRecDepth 20000
open Go.RowKit
def RetDisk (S:Nat→Prop) (w:World) (d:DiskD) (e:Ending) (w' : World):Prop :=
 ∃ A n c,e = .returned (.agg #[.slice A n c,.int .i64 d.room,.int .i64 d.fuse,.bool d.down])∧FilesIn w' (Out S w w') A d.files∧Hid (d.files.length=n)∧n≤c∧c≤maxLen∧Below w.heap.size w w'
theorem sans_yes {fs:List FileD} {k:Nat} {f:FileD} {nm:ByteArray} (h:fs[k]?=some f) (hs:sameName f.name nm=true):sans nm (fs.take (k+1))=sans nm (fs.take k):=by
 unfold sans
 rw [List.take_add_one,h,List.filter_append]
 simp [hs]
theorem sans_no {fs:List FileD} {k:Nat} {f:FileD} {nm:ByteArray} (h:fs[k]?=some f) (hs:sameName f.name nm=false):sans nm (fs.take (k+1))=sans nm (fs.take k)++[f]:=by
 unfold sans
 rw [List.take_add_one,h,List.filter_append]
 simp [hs]
set_option maxHeartbeats 4000000 in
theorem rwithout (A:Option Addr) (n c:Nat) (room fuse:Int) (down:Bool) (nm:ByteArray) (fs:List FileD) (S:Nat→Prop) (w:World) (hS:∀ b,S b→b < w.heap.size) (hf:FilesIn w S A fs) (hn:fs.length=n) (hc:n≤1000000) :
  Calls Tryz.prog 79 #[.agg #[.slice A n c,.int .i64 room,.int .i64 fuse,.bool down],.string nm] w (RetDisk S w ⟨sans nm fs,room,fuse,down⟩):=by
 have HN:Hid (fs.length=n):=Lib.hid hn
 clear hn
 have hinfo:Hid ((Tryz.prog.info? 79).map (fun i=>(i.zero,i.size,i.bytes))=some (some (.agg #[.string ByteArray.empty,.slice none 0 0,.int .i64 0]),3,48)):=Lib.hid (by kernel_rfl)
 obtain ⟨W0,hW0⟩:∃ W0,Hid ((w.alloc (.cells #[.slice A n c,.int .i64 room,.int .i64 fuse,.bool down] 27)).alloc (.cells #[.slice none 0 0,.int .i64 0,.int .i64 0,.bool false] 27)=W0):=⟨_,Lib.hid rfl⟩
 have hb0:Below w.heap.size w W0:=by rw [← hW0.out];exact ((Below.refl _ _).alloc (Nat.le_refl _) _).alloc (by simp) _
 have hs0:W0.heap.size=w.heap.size+2:=by rw [← hW0.out];simp
 have HB1:Hid (W0.heap[w.heap.size]?=some (.cells #[.slice A n c,.int .i64 room,.int .i64 fuse,.bool down] 27 (0,0))):=Lib.hid (by
  rw [← hW0.out,Below.heap_alloc _ _ _ (by simp)];exact heap_alloc_new w _)
 have HB2:Hid (W0.heap[w.heap.size+1]?=some (.cells #[.slice none 0 0,.int .i64 0,.int .i64 0,.bool false] 27 (0,0))):=Lib.hid (by
  rw [← hW0.out];simpa using heap_alloc_new (w.alloc (.cells #[.slice A n c,.int .i64 room,.int .i64 fuse,.bool down] 27)) (.cells #[.slice none 0 0,.int .i64 0,.int .i64 0,.bool false] 27))
 have HS0:=Lib.hid hs0
 clear hs0
 go_enter Tryz.func79,Tryz.ntmps79
 go_wp2
 go_loopw [5,6] (fun t i wr => ∃ (k m c' : Nat) (A' : Option Addr),k≤n∧i = .int .i64 k∧t = .slice A' m c'∧m≤k∧OwnElems rdFile 3 wr (w.heap.size+2) 79 S A' m c' (sans nm (fs.take k))∧Below (w.heap.size+2) W0 wr) (fun _ i _=>n - (intOf i).toNat)
 case atStart=>exact ⟨0,0,0,none,Nat.zero_le _,rfl,rfl,Nat.le_refl _,OwnElems.nil,by rw [hW0.out];exact Below.refl _ _⟩
 case round =>
  obtain ⟨k,m,c',A',hk,rfl,rfl,hmk,hown,hbr⟩:=hrel
  have hsz:=hbr.size
  rw [HS0.out] at hsz
  have HB1' : Hid (wr.heap[w.heap.size]?=some (.cells #[.slice A n c,.int .i64 room,.int .i64 fuse,.bool down] 27 (0,0))):=Lib.hid ((hbr.block _ (by omega)).trans HB1.out)
  have HB2' : Hid (wr.heap[w.heap.size+1]?=some (.cells #[.slice none 0 0,.int .i64 0,.int .i64 0,.bool false] 27 (0,0))):=Lib.hid ((hbr.block _ (by omega)).trans HB2.out)
  have hbw:Below w.heap.size w wr:=hb0.trans (hbr.mono (by omega))
  by_cases hlt:k < n
  ·have x0:=(block_cell HB1'.out 0 _ rfl).1
   obtain ⟨b,off,f,A2,n2,c2,rfl,hb',HX,cell0,cell1,cell2,q1,q2,q3,q4,q5,q6⟩:=(hf.below hS hbw).at_ (j:=k) (by rw [HN.out];exact hlt)
   have hb:=hS b hb'
   clear hb'
   by_cases hs:sameName f.name nm=true
   ·have HE:=Lib.hid (sans_yes HX.out hs)
    have hs' : (f.name.toList == nm.toList)=true:=hs
    have hs2:(f.name.toList != nm.toList)=false:=by simpa [sameName] using hs
    clear hs
    go_wp2
    go_roundw
    case rel=>exact ⟨k+1,m,c',A',by omega,by go_num,rfl,by omega,by rw [HE.out];exact hown,hbr⟩
    case measure=>first | (simp [intOf];done) | (simp [intOf];omega)
   ·have HE:=Lib.hid (sans_no HX.out (by simpa using hs))
    have hs2:(f.name.toList != nm.toList)=true:=by simpa [sameName] using hs
    have hs' : (f.name.toList == nm.toList)=false:=by simpa [sameName] using hs
    clear hs
    have HR:Hid (∀ o,rdFile (wr.alloc o) S [.string f.name,.slice A2 n2 c2,.int .i64 f.sure] f):=Lib.hid (fun o =>
     ⟨A2,n2,c2,rfl,q1,q2.below hS ((Below.refl _ _).alloc (by omega) o),q3.out,q4,q5,by unfold inI at q6;exact WalkArith.wf_i64 q6⟩)
    have H3:Hid (∀ o b,S b→b < (wr.alloc o).heap.size∧some b≠(Value.slice A' m c').ownBlock):=Lib.hid (fun o b hb' =>
     ⟨by
       have:=hS b hb'
       simp;omega,fun e=>by have:=(hown.block b e.symm).1;have:=hS b hb';omega⟩)
    go_wp2_with (at_builtin;refine wpList_append_elems rfl (.tmp 22) (.tmp 28) _ rfl keeps_file leaf_file (by decide) (w.heap.size+2) 79 _ 48 Tryz.underlying25 hinfo.out rfl rfl (hown.alloc keeps_file (fun b hb'=>Nat.lt_of_lt_of_le (hS b hb') (by omega)) _) rfl (each_one rfl (HR.out _)) (cells_new rfl 1) rfl (fun _ h=>h) (H3.out _) (by unfold maxLen;omega) (by omega) (by simp;omega) ?_;intro A3 c3 w3 hown3 hgr3 hat3;have hb3:Below (w.heap.size+2) W0 w3:=(hbr.alloc hsz _).grown hgr3 (by simp;omega) (fun g hg=>(hown.block g hg).1);clear hgr3 hat3)
    go_roundw
    case rel=>exact ⟨k+1,m+1,c3,A3,by omega,by go_num,rfl,by omega,by rw [HE.out];exact hown3,hb3⟩
    case measure=>first | (simp [intOf];done) | (simp [intOf];omega)
  ·have HT:Hid (sans nm (fs.take k)=sans nm fs):=Lib.hid (by rw [List.take_of_length_le (by rw [HN.out];omega)])
   rw [HT.out] at hown
   obtain ⟨x0,f0⟩:=block_cell HB1'.out 0 (.slice A n c) rfl
   obtain ⟨x1,f1⟩:=block_cell HB1'.out 1 (.int .i64 room) rfl
   obtain ⟨x2,f2⟩:=block_cell HB1'.out 2 (.int .i64 fuse) rfl
   obtain ⟨x3,f3⟩:=block_cell HB1'.out 3 (.bool down) rfl
   obtain ⟨y0,g0⟩:=block_cell HB2'.out 0 (.slice none 0 0) rfl
   obtain ⟨y1,g1⟩:=block_cell HB2'.out 1 (.int .i64 0) rfl
   obtain ⟨y2,g2⟩:=block_cell HB2'.out 2 (.int .i64 0) rfl
   obtain ⟨y3,g3⟩:=block_cell HB2'.out 3 (.bool false) rfl
   have hown5:=fun (w5:World) (h:OwnElems rdFile 3 w5 (w.heap.size+2) 79 S A' m c' (sans nm fs)) (p:Addr) (hp:p.block=w.heap.size∨p.block=w.heap.size+1) (u:Value) =>
    h.setBelow keeps_file (p:=p) (by omega) (fun b hb'=>by have:=hS b hb';omega) u
   have HF:=Lib.hid (hown5 _ (hown5 _ (hown5 _ (hown5 _ (hown5 wr hown ⟨w.heap.size,0,none⟩ (.inl rfl) (.slice A' m c')) ⟨w.heap.size+1,0,none⟩ (.inr rfl) (.slice A' m c')) ⟨w.heap.size+1,1,none⟩ (.inr rfl) (.int .i64 room)) ⟨w.heap.size+1,2,none⟩ (.inr rfl) (.int .i64 fuse)) ⟨w.heap.size+1,3,none⟩ (.inr rfl) (.bool down))
   clear hown5
   go_wp2
   refine bodyPost_ret (v:=.agg #[.slice A' m c',.int .i64 room,.int .i64 fuse,.bool down]) (by simp [results,Tryz.results79,go_sem,y0,y1,y2,y3]) rfl ⟨A',m,c',rfl,?_,Lib.hid hown.len,?_,?_,?_⟩
   ·exact HF.out.elems keeps_file (by decide) (fun b hb'=>.inl hb') (fun g h1 h2=>.inr ⟨by omega,h2⟩)
   ·exact hown.cap.1
   ·exact hown.cap.2
   ·exact ((((hbw.setCell (by simp) _).setCell (by simp) _).setCell (by simp) _).setCell (by simp) _).setCell (by simp) _
end Go.Proofs.YtepfmpmphcndjaaGreatDoor.disk
end
section
namespace Go.Proofs.YtepfmpmphcndjaaGreatDoor.disk
set_option maxRecDepth 20000
open Go.RowKit
set_option maxHeartbeats 4000000 in
theorem rsame_yes (A A2:Option Addr) (n c c2 B:Nat) (room fuse:Int) (down:Bool) (fs:List FileD) (w:World) (hB:B≤w.heap.size) (hf:Files w B A fs) (hf2:Files w B A2 fs) (hn:fs.length=n) (hc:n≤maxLen) :
  Calls Tryz.prog 18 #[.agg #[.slice A n c,.int .i64 room,.int .i64 fuse,.bool down],.agg #[.slice A2 n c2,.int .i64 room,.int .i64 fuse,.bool down]] w fun e w'=>e = .returned (.bool true)∧Below w.heap.size w w':=by
 have HN:Hid (fs.length=n):=Lib.hid hn
 clear hn
 unfold maxLen at hc
 obtain ⟨W0,hW0⟩:∃ W0,Hid ((w.alloc (.cells #[.slice A n c,.int .i64 room,.int .i64 fuse,.bool down] 27)).alloc (.cells #[.slice A2 n c2,.int .i64 room,.int .i64 fuse,.bool down] 27)=W0):=⟨_,Lib.hid rfl⟩
 have hb0:Below w.heap.size w W0:=by rw [← hW0.out];exact ((Below.refl _ _).alloc (Nat.le_refl _) _).alloc (by simp) _
 have HS0:Hid (W0.heap.size=w.heap.size+2):=Lib.hid (by rw [← hW0.out];simp)
 have HC1:Hid (W0.cell? ⟨w.heap.size,0,none⟩=some (.slice A n c)):=Lib.hid (by rw [← hW0.out];simp)
 have HC2:Hid (W0.cell? ⟨w.heap.size+1,0,none⟩=some (.slice A2 n c2)):=Lib.hid (by rw [← hW0.out];simp)
 go_enter Tryz.func18,Tryz.ntmps18
 go_wp2
 go_loopw [5] (fun i wr => ∃ k:Nat,k≤n∧i = .int .i64 k∧Below (w.heap.size+2) W0 wr) (fun i _=>n - (intOf i).toNat)
 case atStart=>exact ⟨0,Nat.zero_le _,rfl,by rw [hW0.out];exact Below.refl _ _⟩
 case round =>
  obtain ⟨k,hk,rfl,hbr⟩:=hrel
  have hsz:=hbr.size
  rw [HS0.out] at hsz
  have hbw:Below w.heap.size w wr:=hb0.trans (hbr.mono (by omega))
  have x1:wr.cell? ⟨w.heap.size,0,none⟩=some (.slice A n c):=(hbr.cell (p:=⟨w.heap.size,0,none⟩) (by show w.heap.size < _;omega)).trans HC1.out
  have x2:wr.cell? ⟨w.heap.size+1,0,none⟩=some (.slice A2 n c2):=(hbr.cell (p:=⟨w.heap.size+1,0,none⟩) (by show w.heap.size+1 < _;omega)).trans HC2.out
  by_cases hlt:k < n
  ·obtain ⟨b,off,f,A',n',c',rfl,hb,HX,cell0,cell1,cell2,q1,q2,q3,q4,q5,q6⟩:=(hf.below (hbw.mono hB)).at_ (j:=k) (by rw [HN.out];exact hlt)
   obtain ⟨b2,off2,f2,A2',n2',c2',rfl,hb2,HX2,dell0,dell1,dell2,r1,r2,r3,r4,r5,r6⟩:=(hf2.below (hbw.mono hB)).at_ (j:=k) (by rw [HN.out];exact hlt)
   obtain rfl:f=f2:=by have:=HX.out;rw [HX2.out] at this;injection this with this;exact this.symm
   have hlt1:b < wr.heap.size:=by omega
   have hlt2:b2 < wr.heap.size:=by omega
   have hlt3:w.heap.size < wr.heap.size:=by omega
   have hlt4:w.heap.size+1 < wr.heap.size:=by omega
   have hcv1:∀ o1 o2,(convert 62 9 (.slice A' n' c')).run Tryz.prog ((wr.alloc o1).alloc o2).drew = .ok (.string (strB f.data)) ((wr.alloc o1).alloc o2).drew:=fun o1 o2 =>
    run_bys_string (B:=B) (q2.below ((((Below.refl _ _).alloc (by omega) o1).alloc (by simp;omega) o2).drew)) q3.out 62 5 9 Tryz.underlying62 Tryz.underlying5 Tryz.underlying9
   have hcv2:∀ o1 o2,(convert 62 9 (.slice A2' n2' c2')).run Tryz.prog ((wr.alloc o1).alloc o2).drew = .ok (.string (strB f.data)) ((wr.alloc o1).alloc o2).drew:=fun o1 o2 =>
    run_bys_string (B:=B) (r2.below ((((Below.refl _ _).alloc (by omega) o1).alloc (by simp;omega) o2).drew)) r3.out 62 5 9 Tryz.underlying62 Tryz.underlying5 Tryz.underlying9
   go_wp2
   go_region
   all_goals
    go_wp2
    go_roundw
    case rel=>exact ⟨k+1,by omega,by go_num,hbr.trans ((((Below.refl _ _).alloc (by omega) _).alloc (by simp;omega) _).drew)⟩
    case measure=>first | (simp [intOf];done) | (simp [intOf];omega)
  ·go_wp2
   go_ret
   exact ⟨rfl,hbw⟩
theorem short_no {fs:List FileD} {k:Nat} {f:FileD} (h:fs[k]?=some f) (hb:shortFile f=false):false=shortB fs:=by
 unfold shortB
 have:fs.all shortFile=false:=by
  rw [List.all_eq_false]
  exact ⟨f,List.mem_of_getElem? h,by simp [hb]⟩
 rw [this];simp
theorem short_take {fs:List FileD} {k:Nat} {f:FileD} (h:fs[k]?=some f) (hp:(fs.take k).all shortFile=true) (hb:shortFile f=true):(fs.take (k+1)).all shortFile=true:=by
 rw [List.take_add_one,h,List.all_append,hp]
 simp [hb]
set_option maxHeartbeats 4000000 in
theorem rshort (A:Option Addr) (n c:Nat) (room fuse:Int) (down:Bool) (fs:List FileD) (w:World) (hf:Files w w.heap.size A fs) (hn:fs.length=n) (hc:n≤maxLen) :
  Calls Tryz.prog 25 #[.agg #[.slice A n c,.int .i64 room,.int .i64 fuse,.bool down]] w fun e w'=>e = .returned (.bool (shortB fs))∧Below w.heap.size w w':=by
 have HN:Hid (fs.length=n):=Lib.hid hn
 clear hn
 unfold maxLen at hc
 by_cases hbig:70 < n
 ·have HP:Hid (false=shortB fs):=Lib.hid (by symm;unfold shortB;rw [HN.out];simp;omega)
  go_enter Tryz.func25,Tryz.ntmps25
  go_wp2
  go_ret
  exact ⟨retb HP.out,(Below.refl _ _).alloc (Nat.le_refl _) _⟩
 go_enter Tryz.func25,Tryz.ntmps25
 go_wp2
 go_loop [3,4] (fun t i => ∃ k u:Nat,k≤n∧i = .int .i64 k∧t = .int .i64 u∧Hid (used (fs.take k)=u)∧u≤70000 * k∧Hid ((fs.take k).all shortFile=true)) (fun _ i=>n - (intOf i).toNat)
 case atStart=>exact ⟨0,0,Nat.zero_le _,rfl,rfl,Lib.hid rfl,by omega,Lib.hid (by simp)⟩
 case round =>
  obtain ⟨k,u,hk,rfl,rfl,HU,hu,HA⟩:=hrel
  by_cases hlt:k < n
  ·obtain ⟨b,off,f,A',n',c',rfl,hb,HX,cell0,cell1,cell2,q1,q2,q3,q4,q5,q6⟩:=hf.at_ (j:=k) (by rw [HN.out];exact hlt)
   have hne:b≠w.heap.size:=by omega
   unfold maxLen at q1
   rcases (show 70000 < n'∨(n'≤70000∧100 < f.name.size)∨(n'≤70000∧f.name.size≤100) by omega) with s1 | ⟨s1,s2⟩ | ⟨s1,s2⟩
   ·have HP:Hid (false=shortB fs):=Lib.hid (short_no HX.out (by unfold shortFile;rw [q3.out];simp;omega))
    go_wp2
    go_ret
    exact ⟨retb HP.out,(Below.refl _ _).alloc (Nat.le_refl _) _⟩
   ·have HP:Hid (false=shortB fs):=Lib.hid (short_no HX.out (by unfold shortFile;rw [q3.out];simp;omega))
    go_wp2
    go_ret
    exact ⟨retb HP.out,(Below.refl _ _).alloc (Nat.le_refl _) _⟩
   ·have HS:Hid (used (fs.take (k+1))=u+n'):=Lib.hid (by rw [used_step HX.out,HU.out,q3.out])
    have HA2:Hid ((fs.take (k+1)).all shortFile=true):=Lib.hid (short_take HX.out HA.out (by unfold shortFile;rw [q3.out];simp;omega))
    go_wp2
    go_round
    case rel=>exact ⟨k+1,u+n',by omega,by go_num,by go_num,HS,by omega,HA2⟩
    case measure=>first | (simp [intOf];done) | (simp [intOf];omega)
  ·have HE:Hid (decide ((u:Int)≤70000)=shortB fs):=Lib.hid (by
    have h1:=HA.out
    have h2:=HU.out
    rw [List.take_of_length_le (by rw [HN.out];omega)] at h1 h2
    unfold shortB
    rw [h1,h2,HN.out,decide_eq_true (show n≤70 by omega),Bool.true_and,Bool.true_and,decide_eq_decide]
    omega)
   go_wp2
   go_ret
   exact ⟨retb HE.out,(Below.refl _ _).alloc (Nat.le_refl _) _⟩
end Go.Proofs.YtepfmpmphcndjaaGreatDoor.disk
end
section
namespace Go.Proofs.YtepfmpmphcndjaaGreatDoor.disk
set_option maxRecDepth 20000
open Go.RowKit
theorem rright_is (A:Option Addr) (n c B:Nat) (room fuse:Int) (down:Bool) (fs:List FileD) (b:Bool) (w:World) (hB:B≤w.heap.size) (hf:Files w B A fs) (hn:fs.length=n) (hc:n≤maxLen) (hr:inI room) (hfu:inI fuse) (h:rightB ⟨fs,room,fuse,down⟩=b) :
  Calls Tryz.prog 46 #[.agg #[.slice A n c,.int .i64 room,.int .i64 fuse,.bool down]] w fun e w'=>e = .returned (.bool b)∧Below w.heap.size w w':=by
 rw [← h];exact rright A n c room fuse down fs w (hf.more hB) hn hc hr hfu
theorem rfirst_is (A:Option Addr) (n c B:Nat) (room fuse:Int) (down:Bool) (fs:List FileD) (na nb:ByteArray) (x:Int) (w:World) (hB:B≤w.heap.size) (hf:Files w B A fs) (hn:fs.length=n) (hc:n≤maxLen) (hr:inI room) (hfu:inI fuse) (ha:na.size≤maxLen) (hb:nb.size≤maxLen)
  (h:firstE ⟨fs,room,fuse,down⟩ na nb=x) :
  Calls Tryz.prog 71 #[.agg #[.slice A n c,.int .i64 room,.int .i64 fuse,.bool down],.string na,.string nb] w fun e w'=>e = .returned (.int .i64 x)∧Below w.heap.size w w':=by
 have HN:Hid (fs.length=n):=Lib.hid hn
 clear hn
 have hb0:∀ o:Obj,Below w.heap.size w (w.alloc o):=fun o=>(Below.refl _ _).alloc (Nat.le_refl _) o
 have HB0:=Lib.hid hb0
 clear hb0
 obtain ⟨b1,h1⟩:∃ b,Hid (rightB ⟨fs,room,fuse,down⟩=b):=⟨_,Lib.hid rfl⟩
 obtain ⟨b2,h2⟩:∃ b,Hid (named na=b):=⟨_,Lib.hid rfl⟩
 obtain ⟨b3,h3⟩:∃ b,Hid (named nb=b):=⟨_,Lib.hid rfl⟩
 have HX:Hid ((if b1 then (if down then 9 else if b2 && b3 then 0 else 1) else 1)=x):=Lib.hid (by rw [← h,← h1.out,← h2.out,← h3.out];rfl)
 clear h
 have HM:=Lib.hid hc
 clear hc
 rcases b1 with _ | _<;>rcases down with _ | _<;>rcases b2 with _ | _<;>rcases b3 with _ | _
 all_goals
  go_enter Tryz.func71,Tryz.ntmps71
  go_wp2_with (first
   |((with_reducible refine (rright_is _ _ _ B _ _ _ fs _ _ (by simp;omega) (hf.below ((HB0.out _).mono hB)) HN.out HM.out hr hfu h1.out).mono ?_);rintro e w' ⟨rfl,hg⟩;have hc3:=hg.cell (p:=⟨w.heap.size,3,none⟩) (by simp);simp at hc3)
   |((with_reducible refine (rnamed_is na _ _ ha h2.out).mono ?_);rintro e w' ⟨rfl,rfl⟩)
   |((with_reducible refine (rnamed_is nb _ _ hb h3.out).mono ?_);rintro e w' ⟨rfl,rfl⟩))
  go_ret
  exact ⟨reti HX.out,(HB0.out _).trans (hg.mono (by simp))⟩
theorem rpower (A:Option Addr) (n c:Nat) (room fuse f2:Int) (down d2 ok:Bool) (w:World) (hfu:inI fuse)
  (h:(fuse=0∧f2=0∧d2=true∧ok=false)∨(0 < fuse∧f2=fuse - 1∧d2=down∧ok=true)∨(fuse < 0∧f2=fuse∧d2=down∧ok=true)) :
  Calls Tryz.prog 74 #[.agg #[.slice A n c,.int .i64 room,.int .i64 fuse,.bool down]] w fun e w'=>e = .returned (.tuple #[.agg #[.slice A n c,.int .i64 room,.int .i64 f2,.bool d2],.bool ok])∧Below w.heap.size w w':=by
 unfold inI at hfu
 rcases h with ⟨rfl,e1,e2,e3⟩ | ⟨h1,e1,e2,e3⟩ | ⟨h1,e1,e2,e3⟩<;>rw [e1,e2,e3]<;>clear e1 e2 e3
 ·go_enter Tryz.func74,Tryz.ntmps74
  go_wp2
  exact bodyPost_ret (v:=.tuple #[.agg #[.slice A n c,.int .i64 room,.int .i64 0,.bool true],.bool false]) (by simp [results,Tryz.results74,go_sem]) rfl ⟨rfl,((Below.refl _ _).alloc (Nat.le_refl _) _).alloc (by simp) _⟩
 ·go_enter Tryz.func74,Tryz.ntmps74
  go_wp2
  exact bodyPost_ret (v:=.tuple #[.agg #[.slice A n c,.int .i64 room,.int .i64 (fuse - 1),.bool down],.bool true]) (by simp [results,Tryz.results74,go_sem]) rfl ⟨rfl,((Below.refl _ _).alloc (Nat.le_refl _) _).alloc (by simp) _⟩
 ·have h2:(fuse == 0)=false:=by simp;omega
  go_enter Tryz.func74,Tryz.ntmps74
  go_wp2
  exact bodyPost_ret (v:=.tuple #[.agg #[.slice A n c,.int .i64 room,.int .i64 fuse,.bool down],.bool true]) (by simp [results,Tryz.results74,go_sem]) rfl ⟨rfl,((Below.refl _ _).alloc (Nat.le_refl _) _).alloc (by simp) _⟩
end Go.Proofs.YtepfmpmphcndjaaGreatDoor.disk
end
section
namespace Go.Proofs.YtepfmpmphcndjaaGreatDoor.disk
set_option maxRecDepth 20000
open Go.RowKit
theorem put_step {fs:List FileD} {k:Nat} {g:FileD} (f:FileD) (p:Bool) (h:fs[k]?=some g) :
  putFrom f (fs.drop k) p=(if !p && atLeast g.name f.name then [f] else [])++((if sameName g.name f.name then [] else [g])++putFrom f (fs.drop (k+1)) (p || atLeast g.name f.name)):=by
 obtain ⟨hk,rfl⟩:=List.getElem?_eq_some_iff.1 h
 rw [List.drop_eq_getElem_cons hk]
 rfl
set_option maxHeartbeats 8000000 in
theorem rwith (A Af:Option Addr) (n c nf cf:Nat) (room fuse:Int) (down:Bool) (fs:List FileD) (f:FileD) (S:Nat→Prop) (w:World) (hS:∀ b,S b→b < w.heap.size) (hf:FilesIn w S A fs) (hn:fs.length=n) (hc:n≤1000000)
  (r1:f.name.size≤maxLen) (r2:BysIn w S Af f.data) (r3:f.data.length=nf) (r4:nf≤cf) (r5:cf≤maxLen) (r6:inI f.sure) :
  Calls Tryz.prog 73 #[.agg #[.slice A n c,.int .i64 room,.int .i64 fuse,.bool down],.agg #[.string f.name,.slice Af nf cf,.int .i64 f.sure]] w (RetDisk S w ⟨withF f fs,room,fuse,down⟩):=by
 have HN:Hid (fs.length=n):=Lib.hid hn
 have HR3:=Lib.hid r3
 have HR1:=Lib.hid r1
 clear hn r3 r1
 have HL:Hid (∀ b,S b→b < w.heap.size+3):=Lib.hid (fun b h=>by have:=hS b h;omega)
 have hinfo:Hid ((Tryz.prog.info? 79).map (fun i=>(i.zero,i.size,i.bytes))=some (some (.agg #[.string ByteArray.empty,.slice none 0 0,.int .i64 0]),3,48)):=Lib.hid (by kernel_rfl)
 have HFf:Hid (∀ W,Below w.heap.size w W→rdFile W S [.string f.name,.slice Af nf cf,.int .i64 f.sure] f):=Lib.hid (fun W hb =>
  ⟨Af,nf,cf,rfl,HR1.out,r2.below hS hb,HR3.out,r4,r5,by unfold inI at r6;exact WalkArith.wf_i64 r6⟩)
 obtain ⟨W0,hW0⟩:∃ W0,Hid (((w.alloc (.cells #[.slice A n c,.int .i64 room,.int .i64 fuse,.bool down] 27)).alloc (.cells #[.string f.name,.slice Af nf cf,.int .i64 f.sure] 79)).alloc (.cells #[.slice none 0 0,.int .i64 0,.int .i64 0,.bool false] 27)=W0):=⟨_,Lib.hid rfl⟩
 have hb0:Below w.heap.size w W0:=by rw [← hW0.out];exact (((Below.refl _ _).alloc (Nat.le_refl _) _).alloc (by simp) _).alloc (by simp;omega) _
 have HS0:Hid (W0.heap.size=w.heap.size+3):=Lib.hid (by rw [← hW0.out];simp)
 have HB1:Hid (W0.heap[w.heap.size]?=some (.cells #[.slice A n c,.int .i64 room,.int .i64 fuse,.bool down] 27 (0,0))):=Lib.hid (by
  rw [← hW0.out,Below.heap_alloc _ _ _ (by simp;omega),Below.heap_alloc _ _ _ (by simp)];exact heap_alloc_new w _)
 have HB2:Hid (W0.heap[w.heap.size+1]?=some (.cells #[.string f.name,.slice Af nf cf,.int .i64 f.sure] 79 (0,0))):=Lib.hid (by
  rw [← hW0.out,Below.heap_alloc _ _ _ (by simp)];simpa using heap_alloc_new (w.alloc (.cells #[.slice A n c,.int .i64 room,.int .i64 fuse,.bool down] 27)) _)
 have HB3:Hid (W0.heap[w.heap.size+1+1]?=some (.cells #[.slice none 0 0,.int .i64 0,.int .i64 0,.bool false] 27 (0,0))):=Lib.hid (by
  rw [← hW0.out];simpa using heap_alloc_new ((w.alloc (.cells #[.slice A n c,.int .i64 room,.int .i64 fuse,.bool down] 27)).alloc (.cells #[.string f.name,.slice Af nf cf,.int .i64 f.sure] 79)) (.cells #[.slice none 0 0,.int .i64 0,.int .i64 0,.bool false] 27))
 go_enter Tryz.func73,Tryz.ntmps73
 go_wp2
 go_loopw [5,6,7] (fun t q i wr => ∃ (k m c' : Nat) (A' : Option Addr) (p:Bool) (acc:List FileD),k≤n∧i = .int .i64 k∧t = .slice A' m c'∧q = .bool p∧m≤k+1∧(p=false→m≤k)∧Hid (withF f fs=acc++putFrom f (fs.drop k) p) ∧
  OwnElems rdFile 3 wr (w.heap.size+3) 79 S A' m c' acc∧Below (w.heap.size+3) W0 wr) (fun _ _ i _=>n - (intOf i).toNat)
 case atStart=>exact ⟨0,0,0,none,false,[],Nat.zero_le _,rfl,rfl,rfl,by omega,by omega,Lib.hid (by simp [withF]),OwnElems.nil,by rw [hW0.out];exact Below.refl _ _⟩
 case round =>
  obtain ⟨k,m,c',A',p,acc,hk,rfl,rfl,rfl,hmk,hmp,HW,hown,hbr⟩:=hrel
  have hsz:=hbr.size
  rw [HS0.out] at hsz
  have HB1' : Hid (wr.heap[w.heap.size]?=some (.cells #[.slice A n c,.int .i64 room,.int .i64 fuse,.bool down] 27 (0,0))):=Lib.hid ((hbr.block _ (by omega)).trans HB1.out)
  have HB2' : Hid (wr.heap[w.heap.size+1]?=some (.cells #[.string f.name,.slice Af nf cf,.int .i64 f.sure] 79 (0,0))):=Lib.hid ((hbr.block _ (by omega)).trans HB2.out)
  have HB3' : Hid (wr.heap[w.heap.size+1+1]?=some (.cells #[.slice none 0 0,.int .i64 0,.int .i64 0,.bool false] 27 (0,0))):=Lib.hid ((hbr.block _ (by omega)).trans HB3.out)
  have hbw:Below w.heap.size w wr:=hb0.trans (hbr.mono (by omega))
  by_cases hlt:k < n
  ·have x0:=(block_cell HB1'.out 0 (.slice A n c) rfl).1
   have z0:=(block_cell HB2'.out 0 (.string f.name) rfl).1
   have z1:=(block_cell HB2'.out 1 (.slice Af nf cf) rfl).1
   have z2:=(block_cell HB2'.out 2 (.int .i64 f.sure) rfl).1
   obtain ⟨b,off,g,A2,n2,c2,rfl,hb',HX,cell0,cell1,cell2,q1,q2,q3,q4,q5,q6⟩:=(hf.below hS hbw).at_ (j:=k) (by rw [HN.out];exact hlt)
   have hb:=hS b hb'
   clear hb'
   have HP:=Lib.hid (HW.out.trans (by rw [put_step f p HX.out]))
   have HG:Hid (∀ W,Below w.heap.size wr W→rdFile W S [.string g.name,.slice A2 n2 c2,.int .i64 g.sure] g):=Lib.hid (fun W hb' =>
    ⟨A2,n2,c2,rfl,q1,q2.below hS hb',q3.out,q4,q5,by unfold inI at q6;exact WalkArith.wf_i64 q6⟩)
   have HBW:=Lib.hid hbw
   have HBR:=Lib.hid hbr
   have u1:w.heap.size < wr.heap.size:=by omega
   have u2' : w.heap.size+1 < wr.heap.size:=by omega
   have u3' : b < wr.heap.size:=by omega
   rcases hge:atLeast g.name f.name with _ | _<;>rcases hs:sameName g.name f.name with _ | _<;>rcases p with _ | _
   all_goals
    have HP2:=Lib.hid (by simpa [hge,hs] using HP.out:_)
    have k1:Op.bytesLess g.name.toList f.name.toList = !(atLeast g.name f.name):=by simp [atLeast]
    have k2:(g.name.toList == f.name.toList)=sameName g.name f.name:=rfl
    have k3:(g.name.toList != f.name.toList) = !(sameName g.name f.name):=rfl
    rw [hge] at k1
    rw [hs] at k2 k3
    simp only [Bool.not_false,Bool.not_true] at k1 k3
    clear hge hs HP
    first | have hmk2:=hmp rfl | skip
    clear hmp
   all_goals
    go_wp2
    go_quiet (fail)
    go_wp2_with (at_builtin;refine wpList_push rfl (.tmp 28) (.tmp 30) _ rfl keeps_file leaf_file (by decide) (w.heap.size+3) S 79 _ 48 Tryz.underlying25 hinfo.out rfl rfl rfl (hown.drewN keeps_file _) (HFf.out _ (below_drewN HBW.out _)) rfl HL.out (by show w.heap.size+3≤wr.heap.size;omega) (by unfold maxLen;omega) (by omega) ?_;intro A3 c3 w3 hown3 hg3;have hb3:Below (w.heap.size+3) wr w3:=(below_drewN (Below.refl _ _) _).trans hg3;have v0:=(hb3.cell (p:=⟨w.heap.size,0,none⟩) (by show w.heap.size < _;omega)).trans x0;have v1:=(hb3.cell (p:=⟨w.heap.size+1,0,none⟩) (by show w.heap.size+1 < _;omega)).trans z0;have d0:=(hb3.cell (p:=⟨b,off+k * 3,none⟩) (by show b < _;omega)).trans cell0;have d1:=(hb3.cell (p:=⟨b,off+k * 3+1,none⟩) (by show b < _;omega)).trans cell1;have d2:=(hb3.cell (p:=⟨b,off+k * 3+2,none⟩) (by show b < _;omega)).trans cell2;have d3:=hb3.size)
    go_quiet (fail)
    go_wp2_with (first
     |(at_builtin;refine wpList_push rfl (.tmp 41) (.tmp 47) _ rfl keeps_file leaf_file (by decide) (w.heap.size+3) S 79 _ 48 Tryz.underlying25 hinfo.out rfl rfl rfl (hown3.drewN keeps_file _) (HG.out _ (below_drewN (hb3.mono (by omega)) _)) rfl HL.out (by show w.heap.size+3≤w3.heap.size;omega) (by unfold maxLen;omega) (by omega) ?_;intro A4 c4 w4 hown4 hg4;have hb4:Below (w.heap.size+3) wr w4:=hb3.trans ((below_drewN (Below.refl _ _) _).trans hg4))
     |(at_builtin;refine wpList_push rfl (.tmp 41) (.tmp 47) _ rfl keeps_file leaf_file (by decide) (w.heap.size+3) S 79 _ 48 Tryz.underlying25 hinfo.out rfl rfl rfl (hown.drewN keeps_file _) (HG.out _ (below_drewN (Below.refl _ _) _)) rfl HL.out (by show w.heap.size+3≤wr.heap.size;omega) (by unfold maxLen;omega) (by omega) ?_;intro A4 c4 w4 hown4 hg4;have hb4:Below (w.heap.size+3) wr w4:=(below_drewN (Below.refl _ _) _).trans hg4))
    go_roundw
    case rel =>
     first
     |exact ⟨k+1,_,_,_,_,acc++[f]++[g],by omega,by go_num,rfl,rfl,by omega,by intro h;first | cases h | omega,Lib.hid (by have:=HP2.out;simpa using this),hown4,hbr.trans hb4⟩
     |exact ⟨k+1,_,_,_,_,acc++[g],by omega,by go_num,rfl,rfl,by omega,by intro h;first | (cases h;done) | omega,Lib.hid (by have:=HP2.out;simpa using this),hown4,hbr.trans hb4⟩
     |exact ⟨k+1,_,_,_,_,acc++[f],by omega,by go_num,rfl,rfl,by omega,by intro h;first | (cases h;done) | omega,Lib.hid (by have:=HP2.out;simpa using this),hown3.drewN keeps_file _,below_drewN (hbr.trans hb3) _⟩
     |exact ⟨k+1,_,_,_,_,acc,by omega,by go_num,rfl,rfl,by omega,by intro h;first | (cases h;done) | omega,Lib.hid (by have:=HP2.out;simpa using this),hown.drewN keeps_file _,below_drewN hbr _⟩
    case measure=>first | (simp [intOf];done) | (simp [intOf];omega)
  ·have HE:Hid (withF f fs=acc++if p then [] else [f]):=Lib.hid (by
    have:=HW.out
    rw [List.drop_of_length_le (by rw [HN.out];omega)] at this
    exact this)
   have HBW:=Lib.hid hbw
   have fin:∀ (W1:World) (A1:Option Addr) (m1 c1:Nat) (res:List FileD),OwnElems rdFile 3 W1 (w.heap.size+3) 79 S A1 m1 c1 res→Below (w.heap.size+3) wr W1 →
     Hid (OwnElems rdFile 3 (((((W1.setCell ⟨w.heap.size,0,none⟩ (.slice A1 m1 c1)).setCell ⟨w.heap.size+1+1,0,none⟩ (.slice A1 m1 c1)).setCell ⟨w.heap.size+1+1,1,none⟩ (.int .i64 room)).setCell ⟨w.heap.size+1+1,2,none⟩ (.int .i64 fuse)).setCell ⟨w.heap.size+1+1,3,none⟩ (.bool down)) (w.heap.size+3) 79 S A1 m1 c1 res):=by
    intro W1 A1 m1 c1 res h _
    have st:=fun (w5:World) (h:OwnElems rdFile 3 w5 (w.heap.size+3) 79 S A1 m1 c1 res) (q:Addr) (hq:q.block=w.heap.size∨q.block=w.heap.size+1+1) (u:Value) =>
     h.setBelow keeps_file (p:=q) (by omega) (fun b hb'=>by have:=hS b hb';omega) u
    exact Lib.hid (st _ (st _ (st _ (st _ (st W1 h ⟨w.heap.size,0,none⟩ (.inl rfl) _) ⟨w.heap.size+1+1,0,none⟩ (.inr rfl) _) ⟨w.heap.size+1+1,1,none⟩ (.inr rfl) _) ⟨w.heap.size+1+1,2,none⟩ (.inr rfl) _) ⟨w.heap.size+1+1,3,none⟩ (.inr rfl) _)
   have FIN:=Lib.hid fin
   clear fin
   obtain ⟨x0,f0⟩:=block_cell HB1'.out 0 (.slice A n c) rfl
   obtain ⟨x1,f1⟩:=block_cell HB1'.out 1 (.int .i64 room) rfl
   obtain ⟨x2,f2⟩:=block_cell HB1'.out 2 (.int .i64 fuse) rfl
   obtain ⟨x3,f3⟩:=block_cell HB1'.out 3 (.bool down) rfl
   obtain ⟨z0,h0⟩:=block_cell HB2'.out 0 (.string f.name) rfl
   obtain ⟨z1,h1⟩:=block_cell HB2'.out 1 (.slice Af nf cf) rfl
   obtain ⟨z2,h2⟩:=block_cell HB2'.out 2 (.int .i64 f.sure) rfl
   obtain ⟨y0,g0⟩:=block_cell HB3'.out 0 (.slice none 0 0) rfl
   obtain ⟨y1,g1⟩:=block_cell HB3'.out 1 (.int .i64 0) rfl
   obtain ⟨y2,g2⟩:=block_cell HB3'.out 2 (.int .i64 0) rfl
   obtain ⟨y3,g3⟩:=block_cell HB3'.out 3 (.bool false) rfl
   rcases p with _ | _
   ·have HE2:Hid (withF f fs=acc++[f]):=Lib.hid (by simpa using HE.out)
    go_wp2_with (at_builtin;refine wpList_push rfl (.tmp 51) (.tmp 53) _ rfl keeps_file leaf_file (by decide) (w.heap.size+3) S 79 _ 48 Tryz.underlying25 hinfo.out rfl rfl rfl hown (HFf.out _ HBW.out) rfl HL.out (by omega) (by unfold maxLen;omega) (by omega) ?_;intro A4 c4 w4 hown4 hg4;have e0:w4.heap[w.heap.size]?=_:=(hg4.block _ (by omega)).trans HB1'.out;have e2:w4.heap[w.heap.size+1+1]?=_:=(hg4.block _ (by omega)).trans HB3'.out;obtain ⟨v0,l0⟩:=block_cell e0 0 (.slice A n c) rfl;obtain ⟨v1,l1⟩:=block_cell e0 1 (.int .i64 room) rfl;obtain ⟨v2,l2⟩:=block_cell e0 2 (.int .i64 fuse) rfl;obtain ⟨v3,l3⟩:=block_cell e0 3 (.bool down) rfl;obtain ⟨o0,n0⟩:=block_cell e2 0 (.slice none 0 0) rfl;obtain ⟨o1,n1⟩:=block_cell e2 1 (.int .i64 0) rfl;obtain ⟨o2,n2⟩:=block_cell e2 2 (.int .i64 0) rfl;obtain ⟨o3,n3⟩:=block_cell e2 3 (.bool false) rfl;clear e0 e2)
    refine bodyPost_ret (v:=.agg #[.slice A4 (m+1) c4,.int .i64 room,.int .i64 fuse,.bool down]) (by simp [results,Tryz.results73,go_sem,o0,o1,o2,o3]) rfl ⟨A4,m+1,c4,rfl,?_,Lib.hid (by rw [HE2.out];exact hown4.len),hown4.cap.1,hown4.cap.2,?_⟩
    ·rw [HE2.out]
     exact (FIN.out _ _ _ _ _ hown4 hg4).out.elems keeps_file (by decide) (fun b hb'=>.inl hb') (fun g h1 h2=>.inr ⟨by omega,h2⟩)
    ·exact (((((HBW.out.trans (hg4.mono (by omega))).setCell (by first | (simp;done) | (show w.heap.size≤w.heap.size+1+1;omega)) _).setCell (by first | (simp;done) | (show w.heap.size≤w.heap.size+1+1;omega)) _).setCell (by first | (simp;done) | (show w.heap.size≤w.heap.size+1+1;omega)) _).setCell (by first | (simp;done) | (show w.heap.size≤w.heap.size+1+1;omega)) _).setCell (by first | (simp;done) | (show w.heap.size≤w.heap.size+1+1;omega)) _
   ·have HE2:Hid (withF f fs=acc):=Lib.hid (by simpa using HE.out)
    go_wp2
    refine bodyPost_ret (v:=.agg #[.slice A' m c',.int .i64 room,.int .i64 fuse,.bool down]) (by simp [results,Tryz.results73,go_sem,y0,y1,y2,y3]) rfl ⟨A',m,c',rfl,?_,Lib.hid (by rw [HE2.out];exact hown.len),hown.cap.1,hown.cap.2,?_⟩
    ·rw [HE2.out]
     exact (FIN.out _ _ _ _ _ hown (Below.refl _ _)).out.elems keeps_file (by decide) (fun b hb'=>.inl hb') (fun g h1 h2=>.inr ⟨by omega,h2⟩)
    ·exact ((((HBW.out.setCell (by first | (simp;done) | (show w.heap.size≤w.heap.size+1+1;omega)) _).setCell (by first | (simp;done) | (show w.heap.size≤w.heap.size+1+1;omega)) _).setCell (by first | (simp;done) | (show w.heap.size≤w.heap.size+1+1;omega)) _).setCell (by first | (simp;done) | (show w.heap.size≤w.heap.size+1+1;omega)) _).setCell (by first | (simp;done) | (show w.heap.size≤w.heap.size+1+1;omega)) _
end Go.Proofs.YtepfmpmphcndjaaGreatDoor.disk
end
