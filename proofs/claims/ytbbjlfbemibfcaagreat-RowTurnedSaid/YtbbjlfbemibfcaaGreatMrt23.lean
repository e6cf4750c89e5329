/-
  BookMath4, BookMath5, BookMath6, NumAdd, NumSub, NumMul, NumMax, Tot
-/
import Derived.Test.YtbbjlfbemibfcaaGreatMrt15
import Derived.Test.YtbbjlfbemibfcaaGreatRows
import Derived.WalkKit
import Derived.WalkSpells
import Derived.WalkLawsBesides
set_option linter.unusedVariables false
set_option linter.unusedSimpArgs false
section
namespace Go.Proofs.YtbbjlfbemibfcaaGreat.book
set_option maxRecDepth 20000
open Go.Proofs.YtbbjlfbemibfcaaGreat.cell (Ce Ex)
open Go.Proofs.YtbbjlfbemibfcaaGreat.order (Or Nt open_ worth Took)
open Go.Proofs.YtbbjlfbemibfcaaGreat.rec (Rc)
open Go.Proofs.YtbbjlfbemibfcaaGreat.frame (inR)
inductive Came (s:St) (r:Rc):St→Prop
 |new {o:Or} : r.k=1→s.k=false→s.os.length < 64→order.begin_ r=(o,0)→Fits s.a s.y (s.os++[o]) (put s (s.os++[o])).cs→stands s (put s (s.os++[o])) r.a r.y=false→Came s r { put s (s.os++[o]) with last:=r.o }
 |replace {k:Nat} {o p:Or} : r.k=2→s.k=false→s.os[k]?=some o→o.i=r.o→order.change o r.q r.p=(p,0)→Fits s.a s.y (s.os.set k p) (put s (s.os.set k p)).cs→stands s (put s (s.os.set k p)) o.a o.y=false→Came s r { put s (s.os.set k p) with last:=s.last }
 |cancel {k:Nat} {o p:Or} : r.k=3→s.os[k]?=some o→o.i=r.o→order.stop o=(p,0)→Came s r { s with os:=s.os.set k p }
 |cap:r.k=4→r.y = -1→Came s r { s with ps:=s.ps.set r.a.toNat r.n }
 |bound:r.k=4→r.y ≠ -1→Came s r { s with ls:=s.ls.set (place s.y r.a r.y) ⟨r.l,r.s,r.n⟩ }
 |kill:r.k=5→Came s r { s with k:=r.on }
 |past:r.k=6→r.z=s.seq+1→Came s r { s with seq:=r.z }
 |told {k:Nat} {o p:Or} : r.k=6→r.z=s.seq+1→s.os[k]?=some o→o.i=r.o→Took o (nt r) p→order.noteOk (nt r)=true→Came s r { s with seq:=r.z,os:=left_ s.os k p,cs:=cellsOf s.y (left_ s.os k p) (moved s.y (s.cs.map Ce.p) o (nt r)) }
theorem do_ok {s t:St} {r:Rc} (h:do_ s r=(t,0)):¬ Wrong s r∧∃ u,Came s r u∧t = { u with lsn:=s.lsn+1 }:=by
 unfold do_ at h
 split at h
 ·simp at h
 rename_i hw
 refine ⟨hw,?_⟩
 split at h
 ·rename_i h1;simp only [Prod.mk.injEq] at h;exact absurd h.2 h1
 rename_i h1
 simp only [ne_eq,Decidable.not_not] at h1
 simp only [Prod.mk.injEq,and_true] at h
 subst h
 refine ⟨_,?_,rfl⟩
 have hr:rec.right r=true:=by
  unfold Wrong at hw
  cases hh:rec.right r
  ·exact absurd (.inr (.inl hh)) hw
  ·rfl
 have hkind:=rec.right_kind hr
 unfold doing at h1 ⊢
 by_cases k1:r.k=1
 ·rw [if_pos k1] at h1 ⊢
  split at h1
  ·simp at h1
  rename_i hk
  rw [if_neg hk]
  split at h1
  ·simp at h1
  rename_i hl
  rw [if_neg hl]
  have hb:order.begin_ r=((order.begin_ r).1,0):=by unfold order.begin_;rw [if_pos ⟨k1,hr⟩]
  have ha:=ask_ok (t:=(ask s (s.os++[(order.begin_ r).1]) r.a r.y r.o).1) (by rw [← h1])
  rw [ha.1]
  exact .new k1 (by simpa using hk) (by omega) hb ha.2.1 ha.2.2
 rw [if_neg k1] at h1 ⊢
 by_cases k2:r.k=2
 ·rw [if_pos k2] at h1 ⊢
  cases hf:find s.os r.o with
  |none=>rw [hf] at h1;simp at h1
  |some k =>
   rw [hf] at h1
   simp only at h1 ⊢
   obtain ⟨o,ho,hi⟩:=find_some hf
   rw [getD_at ho] at h1 ⊢
   split at h1
   ·simp at h1
   rename_i hc
   rw [if_neg hc]
   simp only [ne_eq,Decidable.not_not] at hc
   split at h1
   ·simp at h1
   rename_i hk
   rw [if_neg hk]
   have ha:=ask_ok (t:=(ask s (s.os.set k (order.change o r.q r.p).1) o.a o.y s.last).1) (by rw [← h1])
   rw [ha.1]
   exact .replace k2 (by simpa using hk) ho hi (by rw [← hc]) ha.2.1 ha.2.2
 rw [if_neg k2] at h1 ⊢
 by_cases k3:r.k=3
 ·rw [if_pos k3] at h1 ⊢
  cases hf:find s.os r.o with
  |none=>rw [hf] at h1;simp at h1
  |some k =>
   rw [hf] at h1
   simp only at h1 ⊢
   obtain ⟨o,ho,hi⟩:=find_some hf
   rw [getD_at ho] at h1 ⊢
   split at h1
   ·simp at h1
   rename_i hc
   rw [if_neg hc]
   simp only [ne_eq,Decidable.not_not] at hc
   exact .cancel k3 ho hi (by rw [← hc])
 rw [if_neg k3] at h1 ⊢
 by_cases k4:r.k=4
 ·rw [if_pos k4]
  split
  ·rename_i hy;exact .cap k4 hy
  ·rename_i hy;exact .bound k4 hy
 rw [if_neg k4] at h1 ⊢
 by_cases k5:r.k=5
 ·rw [if_pos k5];exact .kill k5
 rw [if_neg k5] at h1 ⊢
 have k6:r.k=6:=by omega
 have hno:order.noteOk (nt r)=true:=by
  unfold rec.right rec.may at hr
  rw [Bool.and_eq_true] at hr
  have h2:=hr.1
  simp only [k6,show ¬ (6:Int)=1 by decide,show ¬ (6:Int)=2 by decide,show ¬ (6:Int)=3 by decide,show ¬ (6:Int)=4 by decide,show ¬ (6:Int)=5 by decide,if_false,if_true,Bool.and_eq_true,decide_eq_true_eq,rec.mayOrder] at h2
  exact order.noteOk_iff.2 ⟨h2.1.1,h2.1.2,h2.2⟩
 unfold event at h1 ⊢
 split at h1
 ·simp at h1
 rename_i hz
 rw [if_neg hz]
 have hz' : r.z=s.seq+1:=by omega
 cases hf:find s.os r.o with
 |none=>exact .past k6 hz'
 |some k =>
  obtain ⟨o,ho,hi⟩:=find_some hf
  simp only
  rw [getD_at ho]
  split
  ·exact .past k6 hz'
  ·rename_i hc
   simp only [ne_eq,Decidable.not_not] at hc
   obtain ⟨_,_,_,ht⟩:=order.take_ok (o:=o) (n:=nt r) (p:=(order.take o (nt r)).1) (by rw [← hc])
   exact .told k6 hz' ho hi ht hno
theorem not_wrong {s:St} {r:Rc} (h:¬ Wrong s r):Rightly s∧rec.right r=true∧s.lsn < 1000000000∧r.a < s.a∧r.y < s.y∧(r.k=1→s.last < r.o):=by
 unfold Wrong at h
 simp only [not_or,Bool.not_eq_false,not_and] at h
 obtain ⟨h1,h2,h3,h4,h5,h6⟩:=h
 exact ⟨right_iff.1 h1,h2,by omega,by omega,by omega,fun hk=>by have:=h6 hk;omega⟩
theorem stop_ok {o p:Or} (h:order.stop o=(p,0)):order.Rightly o∧o.g=false∧o.h≠3∧p = { o with g:=true }:=by
 unfold order.stop at h
 split at h
 ·simp at h
 rename_i h1
 split at h
 ·simp at h
 rename_i h2
 simp only [Prod.mk.injEq,and_true] at h
 exact ⟨order.right_iff.1 (by simpa using h1),by cases hg:o.g;rfl;exact absurd (.inl hg) h2,fun hh=>h2 (.inr hh),h.symm⟩
theorem g_same (o:Or) (b:Bool):open_ { o with g:=b }=open_ o∧worth { o with g:=b }=worth o∧(order.Rightly { o with g:=b } ↔ order.Rightly o):=by
 refine ⟨rfl,rfl,Iff.rfl⟩
theorem set_same {s:St} (hs:Rightly s) {k:Nat} {o p:Or} (hk:s.os[k]?=some o) (hp:order.Rightly p) (h3:p.h≠3) (hi:p.i=o.i) (ha:p.a=o.a) (hy:p.y=o.y) (hd:p.d=o.d) (h1:open_ p=open_ o) (h2:worth p=worth o):Rightly { s with os:=s.os.set k p }:=by
 obtain ⟨g1,g2,g3,g4,g5,g6,g7,g8⟩:=hs
 have hw:∀ w:Or→Int,w p=w o→sum w (s.os.set k p)=sum w s.os:=fun w h=>by rw [sum_set w s.os k o p hk,h];omega
 have hc:cellsOf s.y (s.os.set k p) (s.cs.map Ce.p)=cellsOf s.y s.os (s.cs.map Ce.p):=by
  unfold cellsOf cellAt
  congr 1
  funext i q
  have hpl:pl s.y p=pl s.y o:=by unfold pl;rw [ha,hy]
  rw [hw (wB s.y i) (by unfold wB;rw [hpl,hd,h1]),hw (wS s.y i) (by unfold wS;rw [hpl,hd,h1]),hw (wN s.y i) (by unfold wN;rw [hpl,h2])]
 refine ⟨g1,g2,g3,ok_set g4 hk hp h3 hi ha hy,g5,g6,⟨fun q hq=>?_,g7.2⟩,?_⟩
 ·rcases List.mem_or_eq_of_mem_set hq with hq | rfl
  ·exact g7.1 q hq
  ·rw [h2];exact g7.1 o (List.mem_of_getElem? hk)
 ·rw [hc];exact g8
theorem came_right {s u:St} {r:Rc} (hw:¬ Wrong s r) (h:Came s r u):Rightly u∧u.lsn=s.lsn∧u.a=s.a∧u.y=s.y:=by
 obtain ⟨hs,hr,hl,ha,hy,hn⟩:=not_wrong hw
 have hs':=hs
 obtain ⟨g1,g2,g3,g4,g5,g6,g7,g8⟩:=hs'
 cases h with
 |new k1 hk hlen hb hf hst =>
  obtain ⟨_,_,hor,he⟩:=order.begin_right hb
  refine ⟨put_right hs ?_ ?_ hf,rfl,rfl,rfl⟩
  ·have:=ok_snoc (o:=⟨r.o,r.a,r.y,r.d,r.q,r.p,0,1,0,0,0,false⟩) g4 hlen (by rw [← he];exact hor) (by simp) ha hy (hn k1)
   rw [he];exact this
  ·have:=order.id_in hor;rw [he] at this;simp only at this;omega
 |replace k2 hk ho hi hc hf hst =>
  obtain ⟨h1,h2,h3,h4,h5,h6,h7,h8,h9⟩:=order.change_ok hc
  refine ⟨put_right hs (ok_set g4 ho (order.change_right hc) (by rw [h9];simp only;omega) (by rw [h9]) (by rw [h9]) (by rw [h9])) ⟨g3.1,g3.2.1⟩ hf,rfl,rfl,rfl⟩
 |cancel k3 ho hi hc =>
  obtain ⟨h1,h2,h3,h4⟩:=stop_ok hc
  subst h4
  exact ⟨set_same hs ho h1 h3 rfl rfl rfl rfl rfl rfl,rfl,rfl,rfl⟩
 |cap k4 hy1 =>
  refine ⟨⟨g1,⟨g2.1,g2.2.1,by simpa using g2.2.2⟩,g3,g4,g5,fun c hc=>?_,g7,g8⟩,rfl,rfl,rfl⟩
  rcases List.mem_or_eq_of_mem_set hc with hc | rfl
  ·exact g6 c hc
  ·unfold rec.right rec.may at hr
   simp [k4,hy1,rec.mayBound] at hr
   omega
 |bound k4 hy1 =>
  refine ⟨⟨g1,⟨g2.1,by simpa using g2.2.1,g2.2.2⟩,g3,g4,fun c hc=>?_,g6,g7,g8⟩,rfl,rfl,rfl⟩
  rcases List.mem_or_eq_of_mem_set hc with hc | rfl
  ·exact g5 c hc
  ·unfold rec.right rec.may at hr
   simp [k4,hy1,rec.mayBound] at hr
   unfold LimOk
   simp only
   omega
 |kill k5=>exact ⟨⟨g1,g2,g3,g4,g5,g6,g7,g8⟩,rfl,rfl,rfl⟩
 |past k6 hz =>
  have hz2:r.z≤1000000000:=by
   unfold rec.right rec.may at hr
   simp [k6] at hr
   omega
  exact ⟨⟨g1,g2,⟨g3.1,g3.2.1,by simp only;omega,hz2,g3.2.2.2.2⟩,g4,g5,g6,g7,g8⟩,rfl,rfl,rfl⟩
 |told k6 hz ho hi ht hno=>exact ⟨event_right hs ho ht hno (by unfold nt;simp only;omega),rfl,rfl,rfl⟩
end Go.Proofs.YtbbjlfbemibfcaaGreat.book
end
section
namespace Go.Proofs.YtbbjlfbemibfcaaGreat.book
set_option maxRecDepth 20000
open Go.Proofs.YtbbjlfbemibfcaaGreat.cell (Ce Ex covers_iff)
open Go.Proofs.YtbbjlfbemibfcaaGreat.order (Or Nt open_ worth Took)
open Go.Proofs.YtbbjlfbemibfcaaGreat.rec (Rc)
open Go.Proofs.YtbbjlfbemibfcaaGreat.frame (inR)
def exOf (c:Ce):Ex:=⟨c.p+c.b,c.s - c.p,c.n⟩
def openA (s:St) (j:Nat):Int:=(limit.whole (acc s.y j s.cs)).1
end Go.Proofs.YtbbjlfbemibfcaaGreat.book
end
section
namespace Go.Proofs.YtbbjlfbemibfcaaGreat.book
set_option maxRecDepth 20000
open Go.Proofs.YtbbjlfbemibfcaaGreat.cell (Ce Ex covers_iff)
open Go.Proofs.YtbbjlfbemibfcaaGreat.order (Or Nt open_ worth Took)
open Go.Proofs.YtbbjlfbemibfcaaGreat.rec (Rc)
open Go.Proofs.YtbbjlfbemibfcaaGreat.frame (inR)
set_option linter.unusedVariables false
set_option linter.unusedSimpArgs false

/-- what was asked for,and done: where it went,and that it kept within the limits. -/
structure Kept (s t:St) (o:Or):Prop where
  len:t.cs.length=s.cs.length
  ls:t.ls=s.ls
  ps:t.ps=s.ps
  a:t.a=s.a
  y:t.y=s.y
  k:s.k=false
  seq:t.seq=s.seq
  oa:0≤o.a∧o.a < s.a
  oy:0≤o.y∧o.y < s.y
  cell:∀ (i:Nat) (c d:Ce),s.cs[i]?=some c→t.cs[i]?=some d→cell.covers (exOf d) (exOf c)=true∧((i:Int)≠pl s.y o→d=c)∧∀ l,s.ls[i]?=some l→limit.against (exOf c) (exOf d) l=false
  cap:openA s o.a.toNat≤openA t o.a.toNat∧∀ p,s.ps[o.a.toNat]?=some p→limit.cap (openA s o.a.toNat) (openA t o.a.toNat) p=false
end Go.Proofs.YtbbjlfbemibfcaaGreat.book
end
section
namespace Go.Proofs.YtbbjlfbemibfcaaGreat.num
set_option maxRecDepth 20000
open Go.RowKit
theorem add_ok (a b:Int) (w:World) (ha:inI a) (hb:inI b) (h:inI (a+b)) :
  Calls Tryz.prog 95 #[.int .i64 a,.int .i64 b] w fun e w'=>e = .returned (.tuple #[.int .i64 (a+b),.int .i64 0])∧w=w':=by
 unfold inI at ha hb h
 by_cases hn:b < 0
 ·have h2:a+b < a:=by omega
  go_enter Tryz.func95,Tryz.ntmps95
  go_wp2
  go_ret2
  exact ⟨rfl,rfl⟩
 ·have h2:¬ a+b < a:=by omega
  go_enter Tryz.func95,Tryz.ntmps95
  go_wp2
  go_ret2
  exact ⟨rfl,rfl⟩
theorem add_over (a b:Int) (w:World) (ha:inI a) (hb:inI b) (h:¬ inI (a+b)) :
  Calls Tryz.prog 95 #[.int .i64 a,.int .i64 b] w fun e w'=>e = .returned (.tuple #[.int .i64 0,.int .i64 3])∧w=w':=by
 unfold inI at ha hb h
 by_cases hn:b < 0
 ·have h2:¬ wrap64 (a+b) < a:=by unfold wrap64;omega
  go_enter Tryz.func95,Tryz.ntmps95
  go_wp2
  go_ret2
  exact ⟨rfl,rfl⟩
 ·have h2:wrap64 (a+b) < a:=by unfold wrap64;omega
  go_enter Tryz.func95,Tryz.ntmps95
  go_wp2
  go_ret2
  exact ⟨rfl,rfl⟩
end Go.Proofs.YtbbjlfbemibfcaaGreat.num
end
section
namespace Go.Proofs.YtbbjlfbemibfcaaGreat.num
set_option maxRecDepth 20000
open Go.RowKit
theorem sub_ok (a b:Int) (w:World) (ha:inI a) (hb:inI b) (h:inI (a - b)) :
  Calls Tryz.prog 115 #[.int .i64 a,.int .i64 b] w fun e w'=>e = .returned (.tuple #[.int .i64 (a - b),.int .i64 0])∧w=w':=by
 unfold inI at ha hb h
 by_cases hn:b < 0
 ·have h2:a < a - b:=by omega
  go_enter Tryz.func115,Tryz.ntmps115
  go_wp2
  go_ret2
  exact ⟨rfl,rfl⟩
 ·have h2:¬ a < a - b:=by omega
  go_enter Tryz.func115,Tryz.ntmps115
  go_wp2
  go_ret2
  exact ⟨rfl,rfl⟩
theorem sub_over (a b:Int) (w:World) (ha:inI a) (hb:inI b) (h:¬ inI (a - b)) :
  Calls Tryz.prog 115 #[.int .i64 a,.int .i64 b] w fun e w'=>e = .returned (.tuple #[.int .i64 0,.int .i64 3])∧w=w':=by
 unfold inI at ha hb h
 by_cases hn:b < 0
 ·have h2:¬ a < wrap64 (a - b):=by unfold wrap64;omega
  go_enter Tryz.func115,Tryz.ntmps115
  go_wp2
  go_ret2
  exact ⟨rfl,rfl⟩
 ·have h2:a < wrap64 (a - b):=by unfold wrap64;omega
  go_enter Tryz.func115,Tryz.ntmps115
  go_wp2
  go_ret2
  exact ⟨rfl,rfl⟩
end Go.Proofs.YtbbjlfbemibfcaaGreat.num
end
section
namespace Go.Proofs.YtbbjlfbemibfcaaGreat.num
set_option maxRecDepth 20000
open Go.RowKit
theorem mul_ok (a b:Int) (w:World) (ha:inI a) (hb:inI b) (h:inI (a * b)) :
  Calls Tryz.prog 133 #[.int .i64 a,.int .i64 b] w fun e w'=>e = .returned (.tuple #[.int .i64 (a * b),.int .i64 0])∧w=w':=by
 unfold inI at ha hb h
 by_cases hz:a=0
 ·subst hz
  go_enter Tryz.func133,Tryz.ntmps133
  go_wp2
  go_ret2
  exact ⟨by simp,rfl⟩
 by_cases hy:b=0
 ·subst hy
  go_enter Tryz.func133,Tryz.ntmps133
  go_wp2
  go_ret2
  exact ⟨by simp,rfl⟩
 have hz' : (a == 0)=false:=by simpa using hz
 have hy' : (b == 0)=false:=by simpa using hy
 have h1:wrap64 ((a * b).tdiv a)=b:=by rw [Int.mul_tdiv_cancel_left _ hz];unfold wrap64;omega
 have h2:wrap64 ((a * b).tdiv b)=a:=by rw [Int.mul_tdiv_cancel _ hy];unfold wrap64;omega
 go_enter Tryz.func133,Tryz.ntmps133
 go_wp2
 go_ret2
 exact ⟨rfl,rfl⟩
theorem mul_over (a b:Int) (w:World) (ha:inI a) (hb:inI b) (h:¬ inI (a * b)) :
  Calls Tryz.prog 133 #[.int .i64 a,.int .i64 b] w fun e w'=>e = .returned (.tuple #[.int .i64 0,.int .i64 3])∧w=w':=by
 have hz:a≠0:=by rintro rfl;exact h (by unfold inI;omega)
 have hy:b≠0:=by rintro rfl;exact h (by unfold inI;omega)
 have H:=mul_wraps a b ha hb hz hy h
 have hz' : (a == 0)=false:=by simpa using hz
 have hy' : (b == 0)=false:=by simpa using hy
 by_cases h1:wrap64 ((wrap64 (a * b)).tdiv a)=b
 ·have h2:=H h1
  have h1' : (wrap64 ((wrap64 (a * b)).tdiv a) != b)=false:=by simpa using h1
  have h2' : (wrap64 ((wrap64 (a * b)).tdiv b) != a)=true:=by simpa using h2
  clear H h1 h2 h
  go_enter Tryz.func133,Tryz.ntmps133
  go_wp2
  go_ret2
  exact ⟨rfl,rfl⟩
 ·have h1' : (wrap64 ((wrap64 (a * b)).tdiv a) != b)=true:=by simpa using h1
  clear H h1 h
  go_enter Tryz.func133,Tryz.ntmps133
  go_wp2
  go_ret2
  exact ⟨rfl,rfl⟩
end Go.Proofs.YtbbjlfbemibfcaaGreat.num
end
section
namespace Go.Proofs.YtbbjlfbemibfcaaGreat.num
set_option maxRecDepth 20000
open Go.RowKit
theorem max_any (a b:Int) (w:World) (ha:inI a) (hb:inI b) :
  Calls Tryz.prog 134 #[.int .i64 a,.int .i64 b] w fun e w'=>e = .returned (.int .i64 (max a b))∧w=w':=by
 unfold inI at ha hb
 by_cases h:a < b
 ·rw [show max a b=b by omega]
  go_enter Tryz.func134,Tryz.ntmps134
  go_wp2
  go_ret
  exact ⟨by simp,rfl⟩
 ·rw [show max a b=a by omega]
  go_enter Tryz.func134,Tryz.ntmps134
  go_wp2
  go_ret
  exact ⟨by simp,rfl⟩
end Go.Proofs.YtbbjlfbemibfcaaGreat.num
end
section
namespace Go.Proofs.YtbbjlfbemibfcaaGreat.num
set_option maxRecDepth 20000
open Go.RowKit
theorem total_any (A:Option Addr) (n cap B:Nat) (xs:List Int) (w:World) (hx:Ints .i64 w B A xs) (hn:xs.length=n) (hm:n≤140737488355328) :
  Calls Tryz.prog 96 #[.slice A n cap] w fun e w'=>e = .returned (.tuple #[.int .i64 (totV (tot 0 xs)),.int .i64 (totE (tot 0 xs))])∧w=w':=by
 have HN:Hid (xs.length=n):=Lib.hid hn
 go_enter Tryz.func96,Tryz.ntmps96
 clear hn
 go_wp2
 go_loop [4,10] (fun t i => ∃ k:Nat,k≤n∧i = .int .i64 k∧∃ s:Int,t = .int .i64 s∧inI s∧Hid (tot 0 xs=tot s (xs.drop k))) (fun _ i=>n - (intOf i).toNat)
 case atStart=>exact ⟨0,Nat.zero_le _,rfl,0,rfl,by unfold inI;omega,Lib.hid (by simp)⟩
 case round =>
  obtain ⟨k,hk,rfl,s,rfl,hs,HT⟩:=hrel
  by_cases hlt:k < n
  ·obtain ⟨b,off,x,rfl,hb,HX,hc,hw⟩:=hx.at_ (j:=k) (by rw [HN.out];exact hlt)
   have hxi:=inI_of_wf hw
   by_cases hin:inI (s+x)
   ·go_wp2_with ((with_reducible refine (add_ok _ _ _ hs hxi hin).mono ?_);rintro e w' ⟨rfl,rfl⟩)
    go_round
    case rel=>exact ⟨k+1,by omega,by go_num,_,rfl,hin,Lib.hid (by rw [HT.out,tot_yes s HX.out hin])⟩
    case measure=>simp [intOf];omega
   ·have HE:Hid (tot 0 xs=none):=Lib.hid (by rw [HT.out,tot_no s HX.out hin])
    go_wp2_with ((with_reducible refine (add_over _ _ _ hs hxi hin).mono ?_);rintro e w' ⟨rfl,rfl⟩)
    go_ret2
    exact ⟨ret2 (by rw [HE.out];rfl) (by rw [HE.out];rfl),rfl⟩
  ·have HE:Hid (tot 0 xs=some s):=Lib.hid (by rw [HT.out,List.drop_of_length_le (by rw [HN.out];omega)];rfl)
   go_wp2
   go_ret2
   exact ⟨ret2 (by rw [HE.out];rfl) (by rw [HE.out];rfl),rfl⟩
end Go.Proofs.YtbbjlfbemibfcaaGreat.num
end
