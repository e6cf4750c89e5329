/-
  DiskImpl1
-/
import Derived.Test.YtlipgnenbdchmaaMsg20
import Derived.Test.YtlipgnenbdchmaaMsg19
import Derived.Deep.RegionHeld3
set_option linter.unusedVariables false
set_option linter.unusedSimpArgs false
namespace Go.Proofs.Ytlipgnenbdchmaa.disk
set_option maxRecDepth 20000
open Go.RowKit
theorem dnamed (s:ByteArray) (w:World) (hs:s.size≤maxLen) :
  Calls Try.prog 60 #[.string s] w fun e w'=>e = .returned (.bool (named s))∧w=w':=by
 unfold maxLen at hs
 rcases (show s.size < 1∨(1≤s.size∧16 < s.size)∨(1≤s.size∧s.size≤16) by omega) with h0 | ⟨h0,h1⟩ | ⟨h0,h1⟩
 ·have HE:Hid (named s=false):=Lib.hid (by unfold named;rw [decide_eq_false (show ¬ 0 < s.size by omega)];simp)
  go_enter Try.func60,Try.ntmps60
  go_wp2
  go_ret
  exact ⟨retb HE.out.symm,rfl⟩
 ·have HE:Hid (named s=false):=Lib.hid (by unfold named;rw [decide_eq_false (show ¬ s.size≤16 by omega)];simp)
  go_enter Try.func60,Try.ntmps60
  go_wp2
  go_ret
  exact ⟨retb HE.out.symm,rfl⟩
 ·have HE:Hid (s.data.toList.all signOk=true→named s=true):=Lib.hid (fun h=>by unfold named;rw [h,decide_eq_true (show 0 < s.size by omega),decide_eq_true h1];rfl)
  go_enter Try.func60,Try.ntmps60
  go_wp2
  go_loop [15] (fun i => ∃ k:Nat,k≤s.size∧i = .int .i64 k∧Hid ((s.data.toList.take k).all signOk=true)) (fun i=>s.size - (intOf i).toNat)
  case atStart=>exact ⟨0,Nat.zero_le _,rfl,Lib.hid (by simp)⟩
  case round =>
   obtain ⟨k,hk,rfl,HP⟩:=hrel
   by_cases hlt:k < s.size
   ·have HT:=Lib.hid (take_all hlt HP.out)
    have HN:=Lib.hid (fun h=>named_no (s:=s) hlt h)
    rcases sign_cases s[k] with ⟨h1,h2,h3⟩ | ⟨h1,h2,h3⟩ | ⟨h1,h2,h3,h4⟩ | ⟨h1,h2,h3,h4⟩ | ⟨h1,h2,h3,h4⟩ | ⟨h1,h2,h3⟩
    all_goals
     first
     |have HF:Hid (named s=false):=Lib.hid (HN.out (by assumption))
      clear HT HN
      go_wp2
      go_ret
      exact ⟨retb HF.out.symm,rfl⟩
     |have HF:Hid ((s.data.toList.take (k+1)).all signOk=true):=Lib.hid (by rw [HT.out];assumption)
      clear HT HN
      go_wp2
      go_round
      case rel=>exact ⟨k+1,by omega,by go_num,HF⟩
      case measure=>first | (simp [intOf];done) | (simp [intOf];omega)
   ·have HA:Hid (named s=true):=Lib.hid (HE.out (by
     have:=HP.out
     rw [List.take_of_length_le (by simp;omega)] at this
     exact this))
    go_wp2
    go_ret
    exact ⟨retb HA.out.symm,rfl⟩
theorem dnamed_is (s:ByteArray) (b:Bool) (w:World) (hs:s.size≤maxLen) (h:named s=b) :
  Calls Try.prog 60 #[.string s] w fun e w'=>e = .returned (.bool b)∧w=w':=by
 rw [← h];exact dnamed s w hs
theorem dused0 (A:Option Addr) (n c:Nat) (room fuse:Int) (down:Bool) (fs:List FileD) (u:Nat) (S:Nat→Prop) (w:World) (hS:∀ b,S b→b < w.heap.size) (hf:FilesIn w S A fs) (hn:fs.length=n) (hc:n≤maxLen) (hu:used fs≤9223372036854775807) (hv:used fs=u) :
  Calls Try.prog 52 #[.agg #[.slice A n c,.int .i64 room,.int .i64 fuse,.bool down]] w fun e w'=>e = .returned (.int .i64 (u:Nat))∧Below w.heap.size w w':=by
 have HF:Hid (∀ W,Below w.heap.size w W→Files W w.heap.size A fs):=Lib.hid (fun W h=>hf.files hS h)
 have HN:Hid (fs.length=n):=Lib.hid hn
 clear hn hf
 unfold maxLen at hc
 have HU:=Lib.hid hu
 have HV:=Lib.hid hv
 clear hu hv
 go_enter Try.func52,Try.ntmps52
 go_wp2
 go_loopw [3,9] (fun t i wr => ∃ k:Nat,k≤n∧i = .int .i64 k∧(∃ u:Nat,t = .int .i64 u∧Hid (used (fs.take k)=u))∧Below w.heap.size w wr∧w.heap.size+1≤wr.heap.size) (fun _ i _=>n - (intOf i).toNat)
 case atStart=>exact ⟨0,Nat.zero_le _,rfl,⟨0,rfl,Lib.hid rfl⟩,(Below.refl _ _).alloc (Nat.le_refl _) _,by simp⟩
 case round =>
  obtain ⟨k,hk,rfl,⟨u',rfl,HK⟩,hbr,hsz⟩:=hrel
  by_cases hlt:k < n
  ·obtain ⟨b,off,f,A',n',c',rfl,hb,HX,cell0,cell1,cell2,q1,q2,q3,q4,q5,q6⟩:=(HF.out _ hbr).at_ (j:=k) (by rw [HN.out];exact hlt)
   have hun:u'+n'≤9223372036854775807:=by
    have h1:=used_take fs (k+1)
    rw [used_step HX.out,HK.out,q3.out] at h1
    have:=HU.out
    omega
   have hlt2:b < wr.heap.size:=by omega
   have HS:Hid (used (fs.take (k+1))=u'+n'):=Lib.hid (by rw [used_step HX.out,HK.out,q3.out])
   have HB:Hid (∀ W',Below wr.heap.size wr W'→Below w.heap.size w W'∧w.heap.size+1≤W'.heap.size):=Lib.hid (fun W' hb'=>⟨hbr.trans (hb'.mono (by omega)),by have:=hb'.size;omega⟩)
   go_wp2
   go_roundw
   case rel =>
    refine ⟨k+1,by omega,by go_num,⟨u'+n',by go_num,HS⟩,HB.out _ ?_⟩
    repeat (first | exact Below.refl _ _ | refine below_drewN ?_ _ | refine Below.drew ?_ | refine Below.setCell ?_ (by simp) _ | refine Below.alloc ?_ (by simp) _)
   case measure=>first | (simp [intOf];done) | (simp [intOf];omega)
  ·obtain rfl:u'=u:=by have h:=HK.out;rw [List.take_of_length_le (by rw [HN.out];omega)] at h;rw [← h,HV.out]
   go_wp2
   go_ret
   exact ⟨rfl,hbr⟩
theorem used_short {fs:List FileD} (h:shortB fs=true):used fs≤70000∧fs.length≤70:=by
 unfold shortB at h
 simp only [Bool.and_eq_true,decide_eq_true_eq] at h
 exact ⟨h.2,h.1.1⟩
def okFrom:ByteArray→List FileD→Bool
 | _,[]=>true
 |q,f :: r=>named f.name && !upTo f.name q && decide (0≤f.sure) && decide (f.sure≤(f.data.length:Int)) && okFrom f.name r
theorem upTo_empty {s:ByteArray} (h:named s=true):upTo s ⟨#[]⟩=false:=by
 have h0:0 < s.size:=by
  unfold named at h
  simp only [Bool.and_eq_true,decide_eq_true_eq] at h
  exact h.1.2
 unfold upTo
 have e:(⟨#[]⟩:ByteArray).toList=[]:=by rw [ByteArray.toList_eq]
 rw [e]
 cases h1:s.toList with
 |nil =>
  exfalso
  have h2:s.data.toList=[]:=by rw [← ByteArray.toList_eq];exact h1
  have h3:s.size=0:=by
   show s.data.size=0
   rw [← Array.length_toList,h2]
   rfl
  omega
 |cons a l=>simp [Op.bytesLess]
theorem ok_good (fs:List FileD) (h:∀ f ∈ fs,f.data.length≤65536):(∀ q,goodFrom (some q) fs=okFrom q fs)∧goodFrom none fs=okFrom ⟨#[]⟩ fs:=by
 induction fs with
 |nil=>exact ⟨fun _=>rfl,rfl⟩
 |cons f r ih =>
  have ih':=(ih fun g hg=>h g (List.mem_cons_of_mem _ hg)).1
  have hl:=h f (List.mem_cons_self ..)
  refine ⟨fun q=>?_,?_⟩
  ·simp only [goodFrom,okFrom,fileOk,ih',decide_eq_true hl,Bool.and_true]
   cases named f.name<;>cases upTo f.name q<;>simp
  ·simp only [goodFrom,okFrom,fileOk,ih',decide_eq_true hl,Bool.and_true]
   cases hn:named f.name
   ·simp
   ·simp [upTo_empty hn]
theorem good_len {p:Option ByteArray} {fs:List FileD} (h:goodFrom p fs=true):∀ f ∈ fs,f.data.length≤65536:=by
 induction fs generalizing p with
 |nil=>simp
 |cons g r ih =>
  simp only [goodFrom,Bool.and_eq_true] at h
  intro f hf
  rcases List.mem_cons.1 hf with rfl | hf
  ·have:=h.1.1
   simp only [fileOk,Bool.and_eq_true,decide_eq_true_eq] at this
   exact this.2
  ·exact ih h.2 f hf
theorem used_mem' {fs:List FileD} {f:FileD} (h:f ∈ fs):f.data.length≤used fs:=by
 unfold used
 induction fs with
 |nil=>cases h
 |cons g r ih =>
  simp only [List.map_cons,List.sum_cons]
  rcases List.mem_cons.1 h with rfl | h
  ·omega
  ·have:=ih h;omega
theorem right_code (d:DiskD):rightB d=(decide (0≤d.room) && decide (d.room≤65536) && decide (-1≤d.fuse) && decide (d.files.length≤64) && okFrom ⟨#[]⟩ d.files && decide ((used d.files:Int)≤d.room)):=by
 unfold rightB
 by_cases h:∀ f ∈ d.files,f.data.length≤65536
 ·rw [(ok_good d.files h).2]
 ·have h1:goodFrom none d.files=false:=by
   cases e:goodFrom none d.files with
   |false=>rfl
   |true=>exact absurd (good_len e) h
  have h2:¬ (d.room≤65536∧(used d.files:Int)≤d.room):=by
   rintro ⟨h2,h3⟩
   exact h fun f hf=>by have:=used_mem' hf;omega
  rw [h1]
  simp only [Bool.and_false,Bool.false_and]
  symm
  simp only [Bool.and_eq_false_iff,decide_eq_false_iff_not]
  by_cases hr:d.room≤65536
  ·exact .inr fun h3=>h2 ⟨hr,h3⟩
  ·exact .inl (.inl (.inl (.inl (.inr hr))))
theorem ok_step {fs:List FileD} {k:Nat} {f:FileD} (h:fs[k]?=some f) (q:ByteArray) :
  okFrom q (fs.drop k)=(named f.name && !upTo f.name q && decide (0≤f.sure) && decide (f.sure≤(f.data.length:Int)) && okFrom f.name (fs.drop (k+1))):=by
 obtain ⟨hk,rfl⟩:=List.getElem?_eq_some_iff.1 h
 rw [List.drop_eq_getElem_cons hk]
 rfl
theorem ok_cases (f:FileD) (q:ByteArray) {n:Nat} (hn:f.data.length=n) :
  (named f.name=false)∨(named f.name=true∧upTo f.name q=true)∨(named f.name=true∧upTo f.name q=false∧f.sure < 0) ∨
  (named f.name=true∧upTo f.name q=false∧0≤f.sure∧(n:Int) < f.sure)∨(named f.name=true∧upTo f.name q=false∧0≤f.sure∧f.sure≤(n:Int)):=by
 cases named f.name<;>cases upTo f.name q<;>simp
 omega
set_option maxHeartbeats 4000000 in
theorem dright0 (A:Option Addr) (n c:Nat) (room fuse:Int) (down:Bool) (fs:List FileD) (v:Bool) (S:Nat→Prop) (w:World) (hS:∀ b,S b→b < w.heap.size) (hf:FilesIn w S A fs) (hn:fs.length=n) (hnc:n≤c) (hcm:c≤maxLen) (hr:inI room) (hfu:inI fuse) (hu:used fs≤9223372036854775807) (hv:rightB ⟨fs,room,fuse,down⟩=v) :
  Calls Try.prog 40 #[.agg #[.slice A n c,.int .i64 room,.int .i64 fuse,.bool down]] w fun e w'=>e = .returned (.bool v)∧Below w.heap.size w w':=by
 have HF:Hid (∀ W,Below w.heap.size w W→Files W w.heap.size A fs):=Lib.hid (fun W h=>hf.files hS h)
 have HN:Hid (fs.length=n):=Lib.hid hn
 obtain ⟨u,hu'⟩:∃ u,used fs=u:=⟨_,rfl⟩
 have HUS:Hid (∀ W,Below w.heap.size w W→Calls Try.prog 52 #[.agg #[.slice A n c,.int .i64 room,.int .i64 fuse,.bool down]] W fun e w'=>e = .returned (.int .i64 (u:Nat))∧Below W.heap.size W w') :=
  Lib.hid (fun W h=>dused0 A n c room fuse down fs u S W (fun b hb=>Nat.lt_of_lt_of_le (hS b hb) h.size) (hf.below hS h) hn (Nat.le_trans hnc hcm) hu hu')
 have HV:=Lib.hid (hv.symm.trans (right_code _))
 have HU:=Lib.hid hu'
 clear hn hf hv hu hu'
 unfold inI at hr hfu
 have hcm' : n≤9223372036854775807:=by unfold maxLen at hcm;omega
 clear hcm
 have hpre:(room < 0∨65536 < room∨fuse < -1∨64 < n)→v=false:=by
  intro h
  rw [HV.out]
  simp only [Bool.and_eq_false_iff,decide_eq_false_iff_not,HN.out]
  omega
 rcases (show room < 0∨(0≤room∧65536 < room)∨(0≤room∧room≤65536∧fuse < -1)∨(0≤room∧room≤65536 ∧ -1≤fuse∧64 < n)∨(0≤room∧room≤65536 ∧ -1≤fuse∧n≤64) by omega) with h1 | ⟨h1,h2⟩ | ⟨h1,h2,h3⟩ | ⟨h1,h2,h3,h4⟩ | ⟨h1,h2,h3,h4⟩
 case inr.inr.inr.inr =>
  clear hpre
  have HR:Hid (okFrom ⟨#[]⟩ fs=false→v=false):=Lib.hid (fun h=>by rw [HV.out,h];simp)
  have HRT:Hid (okFrom ⟨#[]⟩ fs=true→decide ((u:Int)≤room)=v):=Lib.hid (fun h=>by
   rw [HV.out,h,HN.out,HU.out]
   simp [h1,h2,h3,h4])
  clear HV
  go_enter Try.func40,Try.ntmps40
  go_wp2
  go_loopw [3,28] (fun t i wr => ∃ k:Nat,k≤n∧i = .int .i64 k∧(∃ q,t = .string q∧Hid (okFrom ⟨#[]⟩ fs=okFrom q (fs.drop k))) ∧
   wr.cell? ⟨w.heap.size,0,none⟩=some (.slice A n c)∧wr.cell? ⟨w.heap.size,1,none⟩=some (.int .i64 room)∧wr.cell? ⟨w.heap.size,2,none⟩=some (.int .i64 fuse)∧wr.cell? ⟨w.heap.size,3,none⟩=some (.bool down)∧Below w.heap.size w wr∧w.heap.size+1≤wr.heap.size) (fun _ i _=>n - (intOf i).toNat)
  case atStart=>exact ⟨0,Nat.zero_le _,rfl,⟨_,rfl,Lib.hid rfl⟩,by simp,by simp,by simp,by simp,(Below.refl _ _).alloc (Nat.le_refl _) _,by simp⟩
  case round =>
   obtain ⟨k,hk,rfl,⟨q,rfl,HG⟩,cell,cellr,cellf,celld,hbr,hsz⟩:=hrel
   by_cases hlt:k < n
   ·obtain ⟨b,off,f,A',n',c',rfl,hb,HX,cell0,cell1,cell2,q1,q2,q3,q4,q5,q6⟩:=(HF.out _ hbr).at_ (j:=k) (by rw [HN.out];exact hlt)
    have HK:Hid (∀ W',Below wr.heap.size wr W'→W'.cell? ⟨w.heap.size,0,none⟩=some (.slice (some ⟨b,off,none⟩) n c)∧W'.cell? ⟨w.heap.size,1,none⟩=some (.int .i64 room)∧W'.cell? ⟨w.heap.size,2,none⟩=some (.int .i64 fuse)∧W'.cell? ⟨w.heap.size,3,none⟩=some (.bool down)∧Below w.heap.size w W'∧w.heap.size+1≤W'.heap.size) :=
     Lib.hid (fun W' hb'=>⟨(hb'.cell (p:=⟨w.heap.size,0,none⟩) (by show w.heap.size < _;omega)).trans cell,(hb'.cell (p:=⟨w.heap.size,1,none⟩) (by show w.heap.size < _;omega)).trans cellr,(hb'.cell (p:=⟨w.heap.size,2,none⟩) (by show w.heap.size < _;omega)).trans cellf,(hb'.cell (p:=⟨w.heap.size,3,none⟩) (by show w.heap.size < _;omega)).trans celld,hbr.trans (hb'.mono (by omega)),by have:=hb'.size;omega⟩)
    have hlt1:w.heap.size < wr.heap.size:=by omega
    have hlt2:b < wr.heap.size:=by omega
    rcases ok_cases f q q3.out with m1 | ⟨m1,m2⟩ | ⟨m1,m2,s1⟩ | ⟨m1,m2,s1,s2⟩ | ⟨m1,m2,s1,s2⟩
    case inr.inr.inr.inr =>
     have M1:=Lib.hid m1
     have HG2:Hid (okFrom ⟨#[]⟩ fs=okFrom f.name (fs.drop (k+1))):=Lib.hid (by rw [HG.out,ok_step HX.out,m1,m2,q3.out];simp [s1,s2])
     have m2' : (Op.bytesLess f.name.toList q.toList || f.name.toList == q.toList)=false:=m2
     clear m1 m2
     go_wp2_with ((with_reducible refine (dnamed_is f.name _ _ q1 M1.out).mono ?_);rintro e w' ⟨rfl,rfl⟩)
     go_roundw
     case rel =>
      refine ⟨k+1,by omega,by go_num,⟨_,rfl,HG2⟩,HK.out _ ?_⟩
      repeat (first | exact Below.refl _ _ | refine below_drewN ?_ _ | refine Below.drew ?_ | refine Below.setCell ?_ (by simp) _ | refine Below.alloc ?_ (by simp) _)
     case measure=>first | (simp [intOf];done) | (simp [intOf];omega)
    case inl =>
     have M1:=Lib.hid m1
     have HE:Hid (v=false):=Lib.hid (HR.out (by rw [HG.out,ok_step HX.out,m1];rfl))
     clear m1
     go_wp2_with ((with_reducible refine (dnamed_is f.name _ _ q1 M1.out).mono ?_);rintro e w' ⟨rfl,rfl⟩)
     go_ret
     refine ⟨retb HE.out.symm,(HK.out _ ?_).2.2.2.2.1⟩
     repeat (first | exact Below.refl _ _ | refine below_drewN ?_ _ | refine Below.drew ?_ | refine Below.setCell ?_ (by simp) _ | refine Below.alloc ?_ (by simp) _)
    all_goals
     have M1:=Lib.hid m1
     have HE:Hid (v=false):=Lib.hid (HR.out (by rw [HG.out,ok_step HX.out,m1,m2,q3.out];first | rfl | (simp;omega)))
     first
      |have m2' : (Op.bytesLess f.name.toList q.toList || f.name.toList == q.toList)=true:=m2
      |have m2' : (Op.bytesLess f.name.toList q.toList || f.name.toList == q.toList)=false:=m2
     clear m1 m2
     go_wp2_with ((with_reducible refine (dnamed_is f.name _ _ q1 M1.out).mono ?_);rintro e w' ⟨rfl,rfl⟩)
     go_ret
     refine ⟨retb HE.out.symm,(HK.out _ ?_).2.2.2.2.1⟩
     repeat (first | exact Below.refl _ _ | refine below_drewN ?_ _ | refine Below.drew ?_ | refine Below.setCell ?_ (by simp) _ | refine Below.alloc ?_ (by simp) _)
   ·have HE:Hid (decide ((u:Int)≤room)=v):=Lib.hid (HRT.out (by rw [HG.out,List.drop_of_length_le (by rw [HN.out];omega)];rfl))
    have hlt1:w.heap.size < wr.heap.size:=by omega
    go_wp2
    go_region_with (go_at_call 52;refine Calls.mono (HUS.out _ hbr.drew) ?_;rintro e w3 ⟨rfl,hg3⟩;have c1:=(hg3.cell (p:=⟨w.heap.size,1,none⟩) (by simpa using hlt1)).trans cellr;have hb3:=hbr.drew.trans (hg3.mono (by have:=hbr.size;simpa using this)))
    all_goals
     go_wp2
     go_ret
     exact ⟨retb HE.out,hb3⟩
 all_goals
  have HP:=Lib.hid (hpre (by omega))
  clear hpre
  go_enter Try.func40,Try.ntmps40
  go_wp2
  go_ret
  exact ⟨retb HP.out.symm,(Below.refl _ _).alloc (Nat.le_refl _) _⟩
end Go.Proofs.Ytlipgnenbdchmaa.disk
