/-
  DiskRef2
-/
import Derived.Test.YtlipgnenbdchmaaMsg14
set_option linter.unusedVariables false
set_option linter.unusedSimpArgs false
namespace Go.Proofs.Ytlipgnenbdchmaa.disk
set_option maxRecDepth 20000
open Go.RowKit
theorem rnamed_is (s:ByteArray) (b:Bool) (w:World) (hs:s.size≤maxLen) (h:named s=b) :
  Calls Try.prog 48 #[.string s] w fun e w'=>e = .returned (.bool b)∧w=w':=by
 rw [← h];exact rnamed s w hs
theorem good_step {fs:List FileD} {k:Nat} {f:FileD} (h:fs[k]?=some f) (p:Option ByteArray) :
  goodFrom p (fs.drop k)=(fileOk f && (match p with | none=>true | some q => !upTo f.name q) && goodFrom (prevName fs (k+1)) (fs.drop (k+1))):=by
 have e:prevName fs (k+1)=some f.name:=by simp [prevName,h]
 obtain ⟨hk,rfl⟩:=List.getElem?_eq_some_iff.1 h
 rw [e,List.drop_eq_getElem_cons hk]
 rfl
theorem file_cases (f:FileD) {n:Nat} (hn:f.data.length=n):(named f.name=false∧fileOk f=false)∨(named f.name=true∧f.sure < 0∧fileOk f=false)∨(named f.name=true∧0≤f.sure∧(n:Int) < f.sure∧fileOk f=false) ∨
  (named f.name=true∧0≤f.sure∧f.sure≤(n:Int)∧65536 < n∧fileOk f=false)∨(named f.name=true∧0≤f.sure∧f.sure≤(n:Int)∧n≤65536∧fileOk f=true):=by
 unfold fileOk
 rw [hn]
 cases h:named f.name
 ·simp
 ·simp only [Bool.true_and,Bool.and_eq_true,Bool.and_eq_false_iff,decide_eq_true_eq,decide_eq_false_iff_not]
  simp
  omega
theorem right_no {d:DiskD} (h:goodFrom none d.files=false):false=rightB d:=by unfold rightB;rw [h];simp
set_option maxHeartbeats 4000000 in
theorem rright (A:Option Addr) (n c:Nat) (room fuse:Int) (down:Bool) (fs:List FileD) (w:World) (hf:Files w w.heap.size A fs) (hn:fs.length=n) (hc:n≤maxLen) (hr:inI room) (hfu:inI fuse) :
  Calls Try.prog 26 #[.agg #[.slice A n c,.int .i64 room,.int .i64 fuse,.bool down]] w fun e w'=>e = .returned (.bool (rightB ⟨fs,room,fuse,down⟩))∧Below w.heap.size w w':=by
 have HN:Hid (fs.length=n):=Lib.hid hn
 clear hn
 unfold maxLen at hc
 unfold inI at hr hfu
 have hpre:(room < 0∨65536 < room∨fuse < -1∨64 < n)→false=rightB ⟨fs,room,fuse,down⟩:=by
  intro h
  symm
  unfold rightB
  rw [HN.out]
  simp only [Bool.and_eq_false_iff,decide_eq_false_iff_not]
  omega
 rcases (show room < 0∨(0≤room∧65536 < room)∨(0≤room∧room≤65536∧fuse < -1)∨(0≤room∧room≤65536 ∧ -1≤fuse∧64 < n)∨(0≤room∧room≤65536 ∧ -1≤fuse∧n≤64) by omega) with h1 | ⟨h1,h2⟩ | ⟨h1,h2,h3⟩ | ⟨h1,h2,h3,h4⟩ | ⟨h1,h2,h3,h4⟩
 ·have HP:=Lib.hid (hpre (.inl h1))
  clear hpre
  go_enter Try.func26,Try.ntmps26
  go_wp2
  go_ret
  exact ⟨retb HP.out,(Below.refl _ _).alloc (Nat.le_refl _) _⟩
 ·have HP:=Lib.hid (hpre (.inr (.inl h2)))
  clear hpre
  go_enter Try.func26,Try.ntmps26
  go_wp2
  go_ret
  exact ⟨retb HP.out,(Below.refl _ _).alloc (Nat.le_refl _) _⟩
 ·have HP:=Lib.hid (hpre (.inr (.inr (.inl h3))))
  clear hpre
  go_enter Try.func26,Try.ntmps26
  go_wp2
  go_ret
  exact ⟨retb HP.out,(Below.refl _ _).alloc (Nat.le_refl _) _⟩
 ·have HP:=Lib.hid (hpre (.inr (.inr (.inr h4))))
  clear hpre
  go_enter Try.func26,Try.ntmps26
  go_wp2
  go_ret
  exact ⟨retb HP.out,(Below.refl _ _).alloc (Nat.le_refl _) _⟩
 ·clear hpre
  have HR:Hid (goodFrom none fs=false→false=rightB ⟨fs,room,fuse,down⟩):=Lib.hid (fun h=>right_no h)
  go_enter Try.func26,Try.ntmps26
  go_wp2
  go_loopw [3,4] (fun t i wr => ∃ k:Nat,k≤n∧i = .int .i64 k∧(∃ u:Nat,t = .int .i64 u∧Hid (used (fs.take k)=u)∧u≤65536 * k)∧Hid (goodFrom none fs=goodFrom (prevName fs k) (fs.drop k)) ∧
   wr.cell? ⟨w.heap.size,0,none⟩=some (.slice A n c)∧wr.cell? ⟨w.heap.size,1,none⟩=some (.int .i64 room)∧Below w.heap.size w wr∧w.heap.size+1≤wr.heap.size) (fun _ i _=>n - (intOf i).toNat)
  case atStart=>exact ⟨0,Nat.zero_le _,rfl,⟨0,rfl,Lib.hid rfl,by omega⟩,Lib.hid (by simp [prevName]),by simp,by simp,(Below.refl _ _).alloc (Nat.le_refl _) _,by simp⟩
  case round =>
   obtain ⟨k,hk,rfl,⟨u,rfl,HU,hu⟩,HG,cell,cellr,hbr,hsz⟩:=hrel
   by_cases hlt:k < n
   ·obtain ⟨b,off,f,A',n',c',rfl,hb,HX,cell0,cell1,cell2,q1,q2,q3,q4,q5,q6⟩:=(hf.below hbr).at_ (j:=k) (by rw [HN.out];exact hlt)
    have HK:Hid (∀ W',Below wr.heap.size wr W'→W'.cell? ⟨w.heap.size,0,none⟩=some (.slice (some ⟨b,off,none⟩) n c)∧W'.cell? ⟨w.heap.size,1,none⟩=some (.int .i64 room)∧Below w.heap.size w W'∧w.heap.size+1≤W'.heap.size) :=
     Lib.hid (fun W' hb'=>⟨(hb'.cell (p:=⟨w.heap.size,0,none⟩) (by show w.heap.size < _;omega)).trans cell,(hb'.cell (p:=⟨w.heap.size,1,none⟩) (by show w.heap.size < _;omega)).trans cellr,hbr.trans (hb'.mono (by omega)),by have:=hb'.size;omega⟩)
    have HS:Hid (used (fs.take (k+1))=u+n'):=Lib.hid (by rw [used_step HX.out,HU.out,q3.out])
    have hne:b≠w.heap.size:=by omega
    have hlt1:w.heap.size < wr.heap.size:=by omega
    have hlt2:b < wr.heap.size:=by omega
    rcases file_cases f q3.out with ⟨m1,m2⟩ | ⟨m1,s1,m2⟩ | ⟨m1,s1,s2,m2⟩ | ⟨m1,s1,s2,s3,m2⟩ | ⟨m1,s1,s2,s3,m2⟩
    case inr.inr.inr.inr =>
     have M1:=Lib.hid m1
     have M2:=Lib.hid m2
     clear m1 m2
     rcases k with _ | k
     ·simp only [Nat.zero_mul,Nat.add_zero] at cell0 cell1 cell2
      have HG2:Hid (goodFrom none fs=goodFrom (prevName fs 1) (fs.drop 1)):=Lib.hid (by rw [HG.out,good_step HX.out,M2.out];rfl)
      go_wp2_with ((with_reducible refine (rnamed_is f.name _ _ q1 M1.out).mono ?_);rintro e w' ⟨rfl,rfl⟩)
      go_quiet (fail)
      go_wp2
      go_roundw
      case rel =>
       refine ⟨1,by omega,rfl,⟨u+n',by go_num,HS,by omega⟩,HG2,?_⟩
       refine HK.out _ ?_
       repeat (first | exact Below.refl _ _ | refine below_drewN ?_ _ | refine Below.drew ?_ | refine Below.setCell ?_ (by simp) _ | refine Below.alloc ?_ (by simp) _)
      case measure=>first | (simp [intOf];done) | (simp [intOf];omega)
     ·have ek:((k+1:Nat):Int)=(k:Int)+1:=by omega
      rw [ek]
      clear ek
      obtain ⟨b2,off2,g,A2,n2,c2,e2,hb2,HX2,pcell0,_,_,_,_,_,_,_,_⟩:=(hf.below hbr).at_ (j:=k) (by rw [HN.out];omega)
      simp only [Option.some.injEq,Addr.mk.injEq,and_true] at e2
      obtain ⟨rfl,rfl⟩:=e2
      by_cases hup:upTo f.name g.name=true
      ·have HE:Hid (false=rightB ⟨fs,room,fuse,down⟩):=Lib.hid (HR.out (by rw [HG.out,good_step HX.out,M2.out];simp [prevName,HX2.out,hup]))
       have hup' : (Op.bytesLess f.name.toList g.name.toList || f.name.toList == g.name.toList)=true:=hup
       clear hup
       go_wp2_with ((with_reducible refine (rnamed_is f.name _ _ q1 M1.out).mono ?_);rintro e w' ⟨rfl,rfl⟩)
       go_quiet (fail)
       go_wp2
       go_ret
       refine ⟨retb HE.out,(HK.out _ ?_).2.2.1⟩
       repeat (first | exact Below.refl _ _ | refine below_drewN ?_ _ | refine Below.drew ?_ | refine Below.setCell ?_ (by simp) _ | refine Below.alloc ?_ (by simp) _)
      ·have hup' : (Op.bytesLess f.name.toList g.name.toList || f.name.toList == g.name.toList)=false:=by simpa [upTo] using hup
       have HG2:Hid (goodFrom none fs=goodFrom (prevName fs (k+1+1)) (fs.drop (k+1+1))):=Lib.hid (by rw [HG.out,good_step HX.out,M2.out];simp [prevName,HX2.out,hup])
       clear hup
       go_wp2_with ((with_reducible refine (rnamed_is f.name _ _ q1 M1.out).mono ?_);rintro e w' ⟨rfl,rfl⟩)
       go_quiet (fail)
       go_wp2
       go_roundw
       case rel =>
        refine ⟨k+1+1,by omega,by go_num,⟨u+n',by go_num,HS,by omega⟩,HG2,?_⟩
        refine HK.out _ ?_
        repeat (first | exact Below.refl _ _ | refine below_drewN ?_ _ | refine Below.drew ?_ | refine Below.setCell ?_ (by simp) _ | refine Below.alloc ?_ (by simp) _)
       case measure=>first | (simp [intOf];done) | (simp [intOf];omega)
    all_goals
     have HE:=Lib.hid (HR.out (by rw [HG.out,good_step HX.out,m2];rfl))
     have M1:=Lib.hid m1
     clear m1 m2
     go_wp2_with ((with_reducible refine (rnamed_is f.name _ _ q1 M1.out).mono ?_);rintro e w' ⟨rfl,rfl⟩)
     go_ret
     refine ⟨retb HE.out,?_⟩
     refine (HK.out _ ?_).2.2.1
     repeat (first | exact Below.refl _ _ | refine below_drewN ?_ _ | refine Below.drew ?_ | refine Below.setCell ?_ (by simp) _ | refine Below.alloc ?_ (by simp) _)
   ·have HE:Hid (decide ((u:Int)≤room)=rightB ⟨fs,room,fuse,down⟩):=Lib.hid (by
     have hg:=HG.out
     rw [List.drop_of_length_le (by rw [HN.out];omega)] at hg
     have hg' : goodFrom none fs=true:=by rw [hg];cases prevName fs k<;>rfl
     have hu':=HU.out
     rw [List.take_of_length_le (by rw [HN.out];omega)] at hu'
     unfold rightB
     rw [hg',hu',HN.out]
     simp [h1,h2,h3,h4])
    go_wp2
    go_ret
    exact ⟨retb HE.out,hbr⟩
end Go.Proofs.Ytlipgnenbdchmaa.disk
