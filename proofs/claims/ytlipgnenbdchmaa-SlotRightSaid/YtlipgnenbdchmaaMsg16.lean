/-
  DiskRef3, DiskRef4, DiskRef5
-/
import Derived.Test.YtlipgnenbdchmaaMsg15
import Derived.Test.YtlipgnenbdchmaaMsg09
import Derived.Test.YtlipgnenbdchmaaMsg14
set_option linter.unusedVariables false
set_option linter.unusedSimpArgs false
section
namespace Go.Proofs.Ytlipgnenbdchmaa.disk
set_option maxRecDepth 20000
open Go.RowKit
def RetDisk (S:Nat→Prop) (w:World) (d:DiskD) (e:Ending) (w' : World):Prop :=
 ∃ A n c,e = .returned (.agg #[.slice A n c,.int .i64 d.room,.int .i64 d.fuse,.bool d.down])∧FilesIn w' (Out S w w') A d.files∧Hid (d.files.length=n)∧n≤c∧c≤maxLen∧Below w.heap.size w w'
end Go.Proofs.Ytlipgnenbdchmaa.disk
end
section
namespace Go.Proofs.Ytlipgnenbdchmaa.disk
set_option maxRecDepth 20000
open Go.RowKit
set_option maxHeartbeats 4000000 in
theorem rsame_yes (A A2:Option Addr) (n c c2 B:Nat) (room fuse:Int) (down:Bool) (fs:List FileD) (w:World) (hB:B≤w.heap.size) (hf:Files w B A fs) (hf2:Files w B A2 fs) (hn:fs.length=n) (hc:n≤maxLen) :
  Calls Try.prog 20 #[.agg #[.slice A n c,.int .i64 room,.int .i64 fuse,.bool down],.agg #[.slice A2 n c2,.int .i64 room,.int .i64 fuse,.bool down]] w fun e w'=>e = .returned (.bool true)∧Below w.heap.size w w':=by
 have HN:Hid (fs.length=n):=Lib.hid hn
 clear hn
 unfold maxLen at hc
 obtain ⟨W0,hW0⟩:∃ W0,Hid ((w.alloc (.cells #[.slice A n c,.int .i64 room,.int .i64 fuse,.bool down] 24)).alloc (.cells #[.slice A2 n c2,.int .i64 room,.int .i64 fuse,.bool down] 24)=W0):=⟨_,Lib.hid rfl⟩
 have hb0:Below w.heap.size w W0:=by rw [← hW0.out];exact ((Below.refl _ _).alloc (Nat.le_refl _) _).alloc (by simp) _
 have HS0:Hid (W0.heap.size=w.heap.size+2):=Lib.hid (by rw [← hW0.out];simp)
 have HC1:Hid (W0.cell? ⟨w.heap.size,0,none⟩=some (.slice A n c)):=Lib.hid (by rw [← hW0.out];simp)
 have HC2:Hid (W0.cell? ⟨w.heap.size+1,0,none⟩=some (.slice A2 n c2)):=Lib.hid (by rw [← hW0.out];simp)
 go_enter Try.func20,Try.ntmps20
 go_wp2
 go_loopw [5] (fun i wr => ∃ k:Nat,k≤n∧i = .int .i64 k∧Below (w.heap.size+2) W0 wr) (fun i _=>n - (intOf i).toNat)
 case atStart=>exact ⟨0,Nat.zero_le _,rfl,by rw [hW0.out];exact Below.refl _ _⟩
 case round =>
  obtain ⟨k,hk,rfl,hbr⟩:=hrel
  have hsz:=hbr.size
  rw [HS0.out] at hsz
  have hbw:Below w.heap.size w wr:=hb0.trans (hbr.mono (by omega))
  have x1:wr.cell? ⟨w.heap.size,0,none⟩=some (.slice A n c):=(hbr.cell (p:=⟨w.heap.size,0,none⟩) (by show w.heap.size < _;omega)).trans HC1.out
  have x2:wr.cell? ⟨w.heap.size+1,0,none⟩=some (.slice A2 n c2):=(hbr.cell (p:=⟨w.heap.size+1,0,none⟩) (by show w.heap.size+1 < _;omega)).trans HC2.out
  by_cases hlt:k < n
  ·obtain ⟨b,off,f,A',n',c',rfl,hb,HX,cell0,cell1,cell2,q1,q2,q3,q4,q5,q6⟩:=(hf.below (hbw.mono hB)).at_ (j:=k) (by rw [HN.out];exact hlt)
   obtain ⟨b2,off2,f2,A2',n2',c2',rfl,hb2,HX2,dell0,dell1,dell2,r1,r2,r3,r4,r5,r6⟩:=(hf2.below (hbw.mono hB)).at_ (j:=k) (by rw [HN.out];exact hlt)
   obtain rfl:f=f2:=by have:=HX.out;rw [HX2.out] at this;injection this with this;exact this.symm
   have hlt1:b < wr.heap.size:=by omega
   have hlt2:b2 < wr.heap.size:=by omega
   have hlt3:w.heap.size < wr.heap.size:=by omega
   have hlt4:w.heap.size+1 < wr.heap.size:=by omega
   have hcv1:∀ o1 o2,(convert 27 9 (.slice A' n' c')).run Try.prog ((wr.alloc o1).alloc o2).drew = .ok (.string (strB f.data)) ((wr.alloc o1).alloc o2).drew:=fun o1 o2 =>
    run_bys_string (B:=B) (q2.below ((((Below.refl _ _).alloc (by omega) o1).alloc (by simp;omega) o2).drew)) q3.out 27 5 9 Try.underlying27 Try.underlying5 Try.underlying9
   have hcv2:∀ o1 o2,(convert 27 9 (.slice A2' n2' c2')).run Try.prog ((wr.alloc o1).alloc o2).drew = .ok (.string (strB f.data)) ((wr.alloc o1).alloc o2).drew:=fun o1 o2 =>
    run_bys_string (B:=B) (r2.below ((((Below.refl _ _).alloc (by omega) o1).alloc (by simp;omega) o2).drew)) r3.out 27 5 9 Try.underlying27 Try.underlying5 Try.underlying9
   go_wp2
   go_region
   all_goals
    go_wp2
    go_roundw
    case rel=>exact ⟨k+1,by omega,by go_num,hbr.trans ((((Below.refl _ _).alloc (by omega) _).alloc (by simp;omega) _).drew)⟩
    case measure=>first | (simp [intOf];done) | (simp [intOf];omega)
  ·go_wp2
   go_ret
   exact ⟨rfl,hbw⟩
theorem short_no {fs:List FileD} {k:Nat} {f:FileD} (h:fs[k]?=some f) (hb:shortFile f=false):false=shortB fs:=by
 unfold shortB
 have:fs.all shortFile=false:=by
  rw [List.all_eq_false]
  exact ⟨f,List.mem_of_getElem? h,by simp [hb]⟩
 rw [this];simp
theorem short_take {fs:List FileD} {k:Nat} {f:FileD} (h:fs[k]?=some f) (hp:(fs.take k).all shortFile=true) (hb:shortFile f=true):(fs.take (k+1)).all shortFile=true:=by
 rw [List.take_add_one,h,List.all_append,hp]
 simp [hb]
set_option maxHeartbeats 4000000 in
theorem rshort (A:Option Addr) (n c:Nat) (room fuse:Int) (down:Bool) (fs:List FileD) (w:World) (hf:Files w w.heap.size A fs) (hn:fs.length=n) (hc:n≤maxLen) :
  Calls Try.prog 7 #[.agg #[.slice A n c,.int .i64 room,.int .i64 fuse,.bool down]] w fun e w'=>e = .returned (.bool (shortB fs))∧Below w.heap.size w w':=by
 have HN:Hid (fs.length=n):=Lib.hid hn
 clear hn
 unfold maxLen at hc
 by_cases hbig:70 < n
 ·have HP:Hid (false=shortB fs):=Lib.hid (by symm;unfold shortB;rw [HN.out];simp;omega)
  go_enter Try.func7,Try.ntmps7
  go_wp2
  go_ret
  exact ⟨retb HP.out,(Below.refl _ _).alloc (Nat.le_refl _) _⟩
 go_enter Try.func7,Try.ntmps7
 go_wp2
 go_loop [3,4] (fun t i => ∃ k u:Nat,k≤n∧i = .int .i64 k∧t = .int .i64 u∧Hid (used (fs.take k)=u)∧u≤70000 * k∧Hid ((fs.take k).all shortFile=true)) (fun _ i=>n - (intOf i).toNat)
 case atStart=>exact ⟨0,0,Nat.zero_le _,rfl,rfl,Lib.hid rfl,by omega,Lib.hid (by simp)⟩
 case round =>
  obtain ⟨k,u,hk,rfl,rfl,HU,hu,HA⟩:=hrel
  by_cases hlt:k < n
  ·obtain ⟨b,off,f,A',n',c',rfl,hb,HX,cell0,cell1,cell2,q1,q2,q3,q4,q5,q6⟩:=hf.at_ (j:=k) (by rw [HN.out];exact hlt)
   have hne:b≠w.heap.size:=by omega
   unfold maxLen at q1
   rcases (show 70000 < n'∨(n'≤70000∧100 < f.name.size)∨(n'≤70000∧f.name.size≤100) by omega) with s1 | ⟨s1,s2⟩ | ⟨s1,s2⟩
   ·have HP:Hid (false=shortB fs):=Lib.hid (short_no HX.out (by unfold shortFile;rw [q3.out];simp;omega))
    go_wp2
    go_ret
    exact ⟨retb HP.out,(Below.refl _ _).alloc (Nat.le_refl _) _⟩
   ·have HP:Hid (false=shortB fs):=Lib.hid (short_no HX.out (by unfold shortFile;rw [q3.out];simp;omega))
    go_wp2
    go_ret
    exact ⟨retb HP.out,(Below.refl _ _).alloc (Nat.le_refl _) _⟩
   ·have HS:Hid (used (fs.take (k+1))=u+n'):=Lib.hid (by rw [used_step HX.out,HU.out,q3.out])
    have HA2:Hid ((fs.take (k+1)).all shortFile=true):=Lib.hid (short_take HX.out HA.out (by unfold shortFile;rw [q3.out];simp;omega))
    go_wp2
    go_round
    case rel=>exact ⟨k+1,u+n',by omega,by go_num,by go_num,HS,by omega,HA2⟩
    case measure=>first | (simp [intOf];done) | (simp [intOf];omega)
  ·have HE:Hid (decide ((u:Int)≤70000)=shortB fs):=Lib.hid (by
    have h1:=HA.out
    have h2:=HU.out
    rw [List.take_of_length_le (by rw [HN.out];omega)] at h1 h2
    unfold shortB
    rw [h1,h2,HN.out,decide_eq_true (show n≤70 by omega),Bool.true_and,Bool.true_and,decide_eq_decide]
    omega)
   go_wp2
   go_ret
   exact ⟨retb HE.out,(Below.refl _ _).alloc (Nat.le_refl _) _⟩
end Go.Proofs.Ytlipgnenbdchmaa.disk
end
section
namespace Go.Proofs.Ytlipgnenbdchmaa.disk
set_option maxRecDepth 20000
open Go.RowKit
theorem rright_is (A:Option Addr) (n c B:Nat) (room fuse:Int) (down:Bool) (fs:List FileD) (b:Bool) (w:World) (hB:B≤w.heap.size) (hf:Files w B A fs) (hn:fs.length=n) (hc:n≤maxLen) (hr:inI room) (hfu:inI fuse) (h:rightB ⟨fs,room,fuse,down⟩=b) :
  Calls Try.prog 26 #[.agg #[.slice A n c,.int .i64 room,.int .i64 fuse,.bool down]] w fun e w'=>e = .returned (.bool b)∧Below w.heap.size w w':=by
 rw [← h];exact rright A n c room fuse down fs w (hf.more hB) hn hc hr hfu
theorem rfirst_is (A:Option Addr) (n c B:Nat) (room fuse:Int) (down:Bool) (fs:List FileD) (na nb:ByteArray) (x:Int) (w:World) (hB:B≤w.heap.size) (hf:Files w B A fs) (hn:fs.length=n) (hc:n≤maxLen) (hr:inI room) (hfu:inI fuse) (ha:na.size≤maxLen) (hb:nb.size≤maxLen)
  (h:firstE ⟨fs,room,fuse,down⟩ na nb=x) :
  Calls Try.prog 55 #[.agg #[.slice A n c,.int .i64 room,.int .i64 fuse,.bool down],.string na,.string nb] w fun e w'=>e = .returned (.int .i64 x)∧Below w.heap.size w w':=by
 have HN:Hid (fs.length=n):=Lib.hid hn
 clear hn
 have hb0:∀ o:Obj,Below w.heap.size w (w.alloc o):=fun o=>(Below.refl _ _).alloc (Nat.le_refl _) o
 have HB0:=Lib.hid hb0
 clear hb0
 obtain ⟨b1,h1⟩:∃ b,Hid (rightB ⟨fs,room,fuse,down⟩=b):=⟨_,Lib.hid rfl⟩
 obtain ⟨b2,h2⟩:∃ b,Hid (named na=b):=⟨_,Lib.hid rfl⟩
 obtain ⟨b3,h3⟩:∃ b,Hid (named nb=b):=⟨_,Lib.hid rfl⟩
 have HX:Hid ((if b1 then (if down then 9 else if b2 && b3 then 0 else 1) else 1)=x):=Lib.hid (by rw [← h,← h1.out,← h2.out,← h3.out];rfl)
 clear h
 have HM:=Lib.hid hc
 clear hc
 rcases b1 with _ | _<;>rcases down with _ | _<;>rcases b2 with _ | _<;>rcases b3 with _ | _
 all_goals
  go_enter Try.func55,Try.ntmps55
  go_wp2_with (first
   |((with_reducible refine (rright_is _ _ _ B _ _ _ fs _ _ (by simp;omega) (hf.below ((HB0.out _).mono hB)) HN.out HM.out hr hfu h1.out).mono ?_);rintro e w' ⟨rfl,hg⟩;have hc3:=hg.cell (p:=⟨w.heap.size,3,none⟩) (by simp);simp at hc3)
   |((with_reducible refine (rnamed_is na _ _ ha h2.out).mono ?_);rintro e w' ⟨rfl,rfl⟩)
   |((with_reducible refine (rnamed_is nb _ _ hb h3.out).mono ?_);rintro e w' ⟨rfl,rfl⟩))
  go_ret
  exact ⟨reti HX.out,(HB0.out _).trans (hg.mono (by simp))⟩
theorem rpower (A:Option Addr) (n c:Nat) (room fuse f2:Int) (down d2 ok:Bool) (w:World) (hfu:inI fuse)
  (h:(fuse=0∧f2=0∧d2=true∧ok=false)∨(0 < fuse∧f2=fuse - 1∧d2=down∧ok=true)∨(fuse < 0∧f2=fuse∧d2=down∧ok=true)) :
  Calls Try.prog 56 #[.agg #[.slice A n c,.int .i64 room,.int .i64 fuse,.bool down]] w fun e w'=>e = .returned (.tuple #[.agg #[.slice A n c,.int .i64 room,.int .i64 f2,.bool d2],.bool ok])∧Below w.heap.size w w':=by
 unfold inI at hfu
 rcases h with ⟨rfl,e1,e2,e3⟩ | ⟨h1,e1,e2,e3⟩ | ⟨h1,e1,e2,e3⟩<;>rw [e1,e2,e3]<;>clear e1 e2 e3
 ·go_enter Try.func56,Try.ntmps56
  go_wp2
  exact bodyPost_ret (v:=.tuple #[.agg #[.slice A n c,.int .i64 room,.int .i64 0,.bool true],.bool false]) (by simp [results,Try.results56,go_sem]) rfl ⟨rfl,((Below.refl _ _).alloc (Nat.le_refl _) _).alloc (by simp) _⟩
 ·go_enter Try.func56,Try.ntmps56
  go_wp2
  exact bodyPost_ret (v:=.tuple #[.agg #[.slice A n c,.int .i64 room,.int .i64 (fuse - 1),.bool down],.bool true]) (by simp [results,Try.results56,go_sem]) rfl ⟨rfl,((Below.refl _ _).alloc (Nat.le_refl _) _).alloc (by simp) _⟩
 ·have h2:(fuse == 0)=false:=by simp;omega
  go_enter Try.func56,Try.ntmps56
  go_wp2
  exact bodyPost_ret (v:=.tuple #[.agg #[.slice A n c,.int .i64 room,.int .i64 fuse,.bool down],.bool true]) (by simp [results,Try.results56,go_sem]) rfl ⟨rfl,((Below.refl _ _).alloc (Nat.le_refl _) _).alloc (by simp) _⟩
end Go.Proofs.Ytlipgnenbdchmaa.disk
end
