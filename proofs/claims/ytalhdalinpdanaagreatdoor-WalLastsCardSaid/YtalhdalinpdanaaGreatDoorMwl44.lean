/-
  WalJ1
-/
import Derived.Test.YtalhdalinpdanaaGreatDoorMwl43
import Derived.Test.YtalhdalinpdanaaGreatDoorMwl34
set_option linter.unusedVariables false
set_option linter.unusedSimpArgs false
namespace Go.Proofs.YtalhdalinpdanaaGreatDoor.wal
open Go.RowKit Go.Proofs.YtalhdalinpdanaaGreatDoor Go.Proofs.YtalhdalinpdanaaGreatDoor.frame Go.Proofs.YtalhdalinpdanaaGreatDoor.disk
set_option maxRecDepth 20000
section
variable {w0:World} {D:List Fact} {S:Nat→Prop} {W:World} {u:Dv} {t:DiskD} {s:Wl}
theorem removed_right {a:Int} (h:rightB t=true):rightB (removedA t a).1=true:=rem_right h
theorem g_removed {a : Int} (hF : Fixed w0 D S W) (hin : ∀ w, Below w0.heap.size w0 w → All D w → InD w S u t) (hs : shortB t.files = true) (ha : inI a) (ht : Lib.TabIs Tryz.prog w0 "internal/strconv.uint64pow10" .u64 Lib.pow10Tab) (he : ErrVar w0) :
  GivesM Tryz.prog w0 D 53 #[.agg (dc u t),.int .i64 a] (Dat (fun w S v=>InD w S v (removedA t a).1) S W) (fun x=>.tuple #[.agg (dc x.1.2.2 (removedA t a).1),.int .i64 (removedA t a).2]) (fun x=>[poolF x.1.1 x.1.2.1]) :=
 gives_dat (R:=fun w S v=>InD w S v (removedA t a).1) (r:=fun b=>.tuple #[.agg (dc b (removedA t a).1),.int .i64 (removedA t a).2]) hF (fun w hw hx=>v_removed u t a S w (hin w hw hx) (hF w hw hx).2 hs (var_later ht hw) (ev_later he hw) ha)
theorem g_cut {nm:ByteArray} {k:Int} (hF:Fixed w0 D S W) (hin:∀ w,Below w0.heap.size w0 w→All D w→InD w S u t) (hs:shortB t.files=true) (hn:nm.size≤100) (hk:inI k) :
  GivesM Tryz.prog w0 D 93 #[.agg (dc u t),.string nm,.int .i64 k] (Dat (fun w S v=>InD w S v (cutD t nm k).1) S W) (fun x=>.tuple #[.agg (dc x.1.2.2 (cutD t nm k).1),.int .i64 (cutD t nm k).2]) (fun x=>[poolF x.1.1 x.1.2.1]) :=
 gives_dat (R:=fun w S v=>InD w S v (cutD t nm k).1) (r:=fun b=>.tuple #[.agg (dc b (cutD t nm k).1),.int .i64 (cutD t nm k).2]) hF (fun w hw hx=>d_cut (hF w hw hx).2 (hin w hw hx) hs hn hk)
theorem g_heldx {g : Int} (hF : Fixed w0 D S W) (hin : ∀ w, Below w0.heap.size w0 w → All D w → InD w S u t) (hs : shortB t.files = true) (hg : inI g) (ht : Lib.TabIs Tryz.prog w0 "internal/strconv.uint64pow10" .u64 Lib.pow10Tab) : GivesM Tryz.prog w0 D 66 #[.agg (dc u t), .int .i64 g] (Option Addr × Nat) (fun x => .slice x.1 (heldV t g).length x.2) (fun _ => []) := fun w hw ha =>
 (v_held u t g S w (hin w hw ha) (hF w hw ha).2 hs hg (var_later ht hw)).mono (by
 rintro e w' ⟨x,rfl,hb,_⟩
 exact ⟨x,rfl,hb,news_nil⟩)
theorem cut_in {c:Int} (hc:0≤c∧c≤8):inI (c * 72):=by unfold inI;omega
def mendL (s:Wl) (t:DiskD):DiskD × Int:=if (removedA t s.g).2=0∧s.c * 72 < ((heldV (removedA t s.g).1 s.g).length:Int) then cutD (removedA t s.g).1 (nameV s.g) (s.c * 72) else removedA t s.g
theorem m_err (h:¬ (removedA t s.g).2=0):mendL s t=((removedA t s.g).1,(removedA t s.g).2):=by unfold mendL;rw [if_neg (by omega)]
theorem m_keep (h:¬ s.c * 72 < ((heldV (removedA t s.g).1 s.g).length:Int)):mendL s t=((removedA t s.g).1,(removedA t s.g).2):=by unfold mendL;rw [if_neg (by omega)]
theorem m_cut (h:(removedA t s.g).2=0) (h2:s.c * 72 < ((heldV (removedA t s.g).1 s.g).length:Int)):mendL s t=((cutD (removedA t s.g).1 (nameV s.g) (s.c * 72)).1,(cutD (removedA t s.g).1 (nameV s.g) (s.c * 72)).2):=by unfold mendL;rw [if_pos ⟨h,h2⟩]
def opensL (t:DiskD) (b:Int):Int:=if (!rightB t || (decide (b < 0) || decide (1000000000≤b)))=true then 1 else if t.down=true then 9 else if (decide ((0:Int) < ((segs t).length:Int)) && decide (b+1 < (segs t).getD 0 0))=true then 11 else 0
theorem o_arg {b:Int} (h:rightB t=false∨(b < 0∨1000000000≤b)):opensL t b=1:=by
 unfold opensL;rw [if_pos]
 rcases h with h | h
 ·rw [h];rfl
 ·rcases h with h | h<;>simp [h]
theorem o_first {b:Int} (h:rightB t=true) (h2:¬ (b < 0∨1000000000≤b)):¬ (!rightB t || (decide (b < 0) || decide (1000000000≤b)))=true:=by
 rw [h];simp;omega
theorem o_down {b:Int} (h:rightB t=true) (h2:¬ (b < 0∨1000000000≤b)) (h3:t.down=true):opensL t b=9:=by unfold opensL;rw [if_neg (o_first h h2),if_pos h3]
theorem o_gap {b:Int} (h:rightB t=true) (h2:¬ (b < 0∨1000000000≤b)) (h3:t.down=false) (h4:(0:Int) < ((segs t).length:Int)) (h5:b+1 < (segs t).getD 0 0):opensL t b=11:=by
 unfold opensL;rw [if_neg (o_first h h2),if_neg (by rw [h3];simp),if_pos (by rw [decide_eq_true h4,decide_eq_true h5];rfl)]
theorem o_ok {b:Int} (h:rightB t=true) (h2:¬ (b < 0∨1000000000≤b)) (h3:t.down=false) (h4:¬ ((0:Int) < ((segs t).length:Int)∧b+1 < (segs t).getD 0 0)):opensL t b=0:=by
 unfold opensL;rw [if_neg (o_first h h2),if_neg (by rw [h3];simp),if_neg (by rw [Bool.and_eq_true,decide_eq_true_eq,decide_eq_true_eq];exact h4)]
end
theorem v_below (n:Int) (w:World):Calls Tryz.prog 55 #[.int .i64 n] w fun e w'=>e = .returned (.func (.func 96) #[] #[.pointer (some ⟨w.heap.size,0,none⟩)])∧Aside (w'=w.alloc (.cells #[.int .i64 n] 2)):=by
 go_enter Tryz.func55,Tryz.ntmps55
 go_wp2
 go_ret
 exact ⟨rfl,rfl⟩
theorem v_mended (v : Jv) (s : Wl) (u : Dv) (t : DiskD) (S : Nat → Prop)  (w : World) (hd0 : InD w S u t) (hS : ∀ k, S k → k < w.heap.size) (hdr : rightB t = true) (hg : inI s.g) (hc : 0 ≤ s.c ∧ s.c ≤ 8) (ht : Lib.TabIs Tryz.prog w "internal/strconv.uint64pow10" .u64 Lib.pow10Tab) (he : ErrVar w) : Calls Tryz.prog 52 #[.agg (dc u t), .agg (jc v s)] w fun e w' => ∃ x : Dv, e = .returned (.tuple #[.agg (dc x (mendL s t).1), .int .i64 (mendL s t).2]) ∧ Below w.heap.size w w' ∧ (fun w' => InD w' (Nw S w w') x (mendL s t).1) w' :=
 have hs:=right_short hdr
 have hd:=hd0.all hS
 calls_q (fn:=Tryz.f52) (r:=fun (x:Dv)=>.tuple #[.agg (dc x (mendL s t).1),.int .i64 (mendL s t).2]) (Q:=fun (x:Dv)=>fun w'=>InD w' (Nw S w w') x (mendL s t).1) (t:=let k1:=removedA t s.g;let k0:=cutD k1.1 (nameV s.g) (s.c * 72); .cm (Dat (fun w S v=>InD w S v (k1.1)) S w) (fun x=>.tuple #[.agg (dc x.1.2.2 (k1.1)),.int .i64 (k1.2)]) (fun x=>[poolF x.1.1 x.1.2.1]) (fun x1=>.e (.int .i64 (s.c * 72)) (.s (.k (.cm (Option Addr × Nat) (fun x=>.slice x.1 ((heldV k1.1 s.g).length) x.2) (fun x=>[]) (fun x3=>.s (.o [0] (.two (.c (.string (nameV s.g)) (.cm (Dat (fun w S v=>InD w S v (k0.1)) (Un S x1.1.2.1) x1.1.1) (fun x=>.tuple #[.agg (dc x.1.2.2 (k0.1)),.int .i64 (k0.2)]) (fun x=>[poolF x.1.1 x.1.2.1]) (fun x5=>.z))) (.c (.string (nameV s.g)) (.cm (Dat (fun w S v=>InD w S v (k0.1)) (Un S x1.1.2.1) x1.1.1) (fun x=>.tuple #[.agg (dc x.1.2.2 (k0.1)),.int .i64 (k0.2)]) (fun x=>[poolF x.1.1 x.1.2.1]) (fun x6=>.z))))) .z))) (.k .z)))) (X :=
 let k1:=removedA t s.g;let k0:=cutD k1.1 (nameV s.g) (s.c * 72);let k2:=decide (((heldV k1.1 s.g).length:Int) > (s.c * 72)); ∀ g0:Nat,∀ g1:Nat,∀ g2:Nat,GivesM Tryz.prog w [] 53 #[.agg (dc u t),.int .i64 s.g] (Dat (fun w S v=>InD w S v (k1.1)) S w) (fun x=>.tuple #[.agg (dc x.1.2.2 (k1.1)),.int .i64 (k1.2)]) (fun x=>[poolF x.1.1 x.1.2.1])∧∀ x1:Dat (fun w S v=>InD w S v (k1.1)) S w,let k3:List Fact:=[poolF x1.1.1 x1.1.2.1];let k4:=dc x1.1.2.2 (k1.1);let k5:=(.tuple #[.agg k4,.int .i64 (k1.2)]:Value);let k6:=Un S x1.1.2.1;let k7:Array Value:=#[.agg k4,.string (nameV s.g),.int .i64 (s.c * 72)];(.int .i64 (IntKind.i64.wrap (s.c * 72)):Value) = .int .i64 (s.c * 72)∧((decide ((k1.2)=0))=true→GivesM Tryz.prog w k3 66 #[.agg k4,.int .i64 s.g] (Option Addr × Nat) (fun x=>.slice x.1 ((heldV k1.1 s.g).length) x.2) (fun x=>[])∧∀ x3:Option Addr × Nat,(k2=true→(Gives Tryz.prog w k3 24 #[.int .i64 s.g] (.string (nameV s.g))∧GivesM Tryz.prog w k3 93 k7 (Dat (fun w S v=>InD w S v (k0.1)) k6 x1.1.1) (fun x=>.tuple #[.agg (dc x.1.2.2 (k0.1)),.int .i64 (k0.2)]) (fun x=>[poolF x.1.1 x.1.2.1])∧∀ x5:Dat (fun w S v=>InD w S v (k0.1)) k6 x1.1.1,∃ x:Dv,(.tuple #[.agg (dc x5.1.2.2 (k0.1)),.int .i64 (k0.2)]:Value) = .tuple #[.agg (dc x (mendL s t).1),.int .i64 (mendL s t).2]∧Concl w [poolF x5.1.1 x5.1.2.1,poolF x1.1.1 x1.1.2.1] (fun w'=>InD w' (Nw S w w') x (mendL s t).1))∧(Gives Tryz.prog w k3 24 #[.int .i64 s.g] (.string (nameV s.g))∧GivesM Tryz.prog w k3 93 k7 (Dat (fun w S v=>InD w S v (k0.1)) k6 x1.1.1) (fun x=>.tuple #[.agg (dc x.1.2.2 (k0.1)),.int .i64 (k0.2)]) (fun x=>[poolF x.1.1 x.1.2.1])∧∀ x6:Dat (fun w S v=>InD w S v (k0.1)) k6 x1.1.1,∃ x:Dv,(.tuple #[.agg (dc x6.1.2.2 (k0.1)),.int .i64 (k0.2)]:Value) = .tuple #[.agg (dc x (mendL s t).1),.int .i64 (mendL s t).2]∧Concl w [poolF x6.1.1 x6.1.2.1,poolF x1.1.1 x1.1.2.1] (fun w'=>InD w' (Nw S w w') x (mendL s t).1)))∧(k2=false→∃ x:Dv,k5 = .tuple #[.agg (dc x (mendL s t).1),.int .i64 (mendL s t).2]∧Concl w k3 (fun w'=>InD w' (Nw S w w') x (mendL s t).1)))∧((decide ((k1.2)=0))=false→∃ x:Dv,k5 = .tuple #[.agg (dc x (mendL s t).1),.int .i64 (mendL s t).2]∧Concl w k3 (fun w'=>InD w' (Nw S w w') x (mendL s t).1))) Tryz.func52 (by kernel_rfl)
 (fun g0=>fun g1=>fun g2=>⟨(g_removed (fixed_low hS) (fun w1 hw _=>(hd0.keep (low_alike hS hw) (fun _ h=>h))) hs hg ht he),fun x1=>⟨wrap_is rfl (by omega) (by omega),⟨fun h2=>have h2:((removedA t s.g).2)=0:=(by simpa using h2)
⟨(g_heldx (fixed_next (fixed_low hS) x1 (i:=0) rfl) (fun w1 hw ha=>((dat_in (keeps_d ((removedA t s.g).1)) (fixed_low hS) x1 (i:=0) rfl w1 hw ha))) (right_short (removed_right hdr)) hg ht),fun x3=>⟨fun h4=>have h4:(s.c * 72) < ((heldV (removedA t s.g).1 s.g).length:Int):=(by simpa using h4)
⟨⟨(n_name hg ht),⟨(g_cut (fixed_next (fixed_low hS) x1 (i:=0) rfl) (fun w1 hw ha=>((dat_in (keeps_d ((removedA t s.g).1)) (fixed_low hS) x1 (i:=0) rfl w1 hw ha))) (right_short (removed_right hdr)) (nameV_100 _) (cut_in hc)),fun x5=>(q_d (m_cut h2 (by omega)) (fun w1 hb ha hy=>(dat_new (keeps_d ((cutD (removedA t s.g).1 (nameV s.g) (s.c * 72)).1)) (fixed_next (fixed_low hS) x1 (i:=1) rfl) x5 (i:=0) rfl hb ha hy (new_un (i:=1) rfl hy new_base))))⟩⟩,
⟨(n_name hg ht),⟨(g_cut (fixed_next (fixed_low hS) x1 (i:=0) rfl) (fun w1 hw ha=>((dat_in (keeps_d ((removedA t s.g).1)) (fixed_low hS) x1 (i:=0) rfl w1 hw ha))) (right_short (removed_right hdr)) (nameV_100 _) (cut_in hc)),fun x6=>(q_d (m_cut h2 (by omega)) (fun w1 hb ha hy=>(dat_new (keeps_d ((cutD (removedA t s.g).1 (nameV s.g) (s.c * 72)).1)) (fixed_next (fixed_low hS) x1 (i:=1) rfl) x6 (i:=0) rfl hb ha hy (new_un (i:=1) rfl hy new_base))))⟩⟩⟩,
 fun h4=>have h4:¬ (s.c * 72) < ((heldV (removedA t s.g).1 s.g).length:Int):=(by simpa using h4)
(q_d (m_keep (by omega)) (fun w1 hb ha hy=>(dat_new (keeps_d ((removedA t s.g).1)) (fixed_low hS) x1 (i:=0) rfl hb ha hy new_base)))⟩⟩,
 fun h2=>have h2:¬ ((removedA t s.g).2)=0:=(by simpa using h2)
(q_d (m_err h2) (fun w1 hb ha hy=>(dat_new (keeps_d ((removedA t s.g).1)) (fixed_low hS) x1 (i:=0) rfl hb ha hy new_base)))⟩⟩⟩)
theorem v_opens (u : Dv) (t : DiskD) (b : Int)  (w : World) (hd : InD w (Lt w.heap.size) u t) (hs : shortB t.files = true) (hb : inI b) (ht : Lib.TabIs Tryz.prog w "internal/strconv.uint64pow10" .u64 Lib.pow10Tab) (he : ErrVar w) : Calls Tryz.prog 50 #[.agg (dc u t), .int .i64 b] w fun e w' => e = .returned (.int .i64 (opensL t b)) ∧ Below w.heap.size w w' :=
 have hsl:=segs_len hs
 calls_by (fn:=Tryz.f50) (r:=.int .i64 (opensL t b)) (t:=.cs (rightB t) (.k (.s (.k .z) (.k (.s .z (.s .z (.cm (Option Addr × Nat) (fun x=>.slice x.1 ((segs t).length) x.2) (fun x=>[ownF (rdInt .i64) 1 2 x.1 ((segs t).length) x.2 (segs t)]) (fun x5=>.s (.k (.q (blkA x5.1) (offA x5.1+0 * 1) #[.int .i64 ((segs t).getD 0 0)] (.e (.int .i64 (b+1)) (.s .z .z)))) (.k .z)))))))) (.k (.k .z))) (X :=
 let k0:=(.int .i64 1:Value) = .int .i64 (opensL t b);let k1:=(segs t).length;let k2:=(.int .i64 0:Value) = .int .i64 (opensL t b);let k3:=decide (((segs t).getD 0 0) > (b+1));let k4:=decide (((segs t).length:Int) > 0);let k5:=decide (b ≥ 1000000000); ∀ g0:Nat,Gives Tryz.prog w [] 44 #[.agg (dc u t)] (.bool (rightB t))∧((rightB t)=true→((decide (b < 0))=true→k0)∧((decide (b < 0))=false→(k5=true→k0)∧(k5=false→(t.down=true→((.int .i64 9:Value) = .int .i64 (opensL t b)))∧(t.down=false→GivesM Tryz.prog w [] 21 #[.agg (dc u t)] (Option Addr × Nat) (fun x=>.slice x.1 k1 x.2) (fun x=>[ownF (rdInt .i64) 1 2 x.1 k1 x.2 (segs t)])∧∀ x5:Option Addr × Nat,let k6:List Fact:=[ownF (rdInt .i64) 1 2 x5.1 k1 x5.2 (segs t)];(k4=true→Yields0 Tryz.prog w k6 (Instr.indexAt 47 (.slice x5.1 k1 x5.2) (.int .i64 0)) (.pointer (some ⟨blkA x5.1,offA x5.1+0 * 1,none⟩))∧Reads0 w k6 (blkA x5.1) (offA x5.1+0 * 1) #[.int .i64 ((segs t).getD 0 0)]∧(.int .i64 (IntKind.i64.wrap (b+1)):Value) = .int .i64 (b+1)∧(k3=true→((.int .i64 11:Value) = .int .i64 (opensL t b)))∧(k3=false→k2))∧(k4=false→k2)))))∧((rightB t)=false→k0)) Tryz.func50 (by kernel_rfl)
 (fun g0=>⟨(g_dright hd hs),fun h1=>⟨fun h2=>have h2:b < 0:=(by simpa using h2)
(by rw [o_arg (.inr (by omega))]),
 fun h2=>have h2:¬ b < 0:=(by simpa using h2)
⟨fun h3=>have h3:¬ b < 1000000000:=(by simpa using h3)
(by rw [o_arg (.inr (by omega))]),
 fun h3=>have h3:b < 1000000000:=(by simpa using h3)
⟨fun h4=>(by rw [o_down h1 (by omega) h4]),
 fun h4=>⟨(g_segs hd hs ht he),fun x5=>⟨fun h6=>have h6:0 < ((segs t).length:Int):=(by simpa using h6)
⟨(index_at (j:=0) rfl (own_index Tryz.underlying47 info_i64 (row_at (j:=0) rfl) (by omega))),(own_reads (keeps_int _) (by decide) int_cells (row_at (j:=0) rfl) (at_getD (by exact (show 0 < (segs t).length by omega)))),⟨wrap_is rfl (by omega) (by omega),⟨fun h7=>have h7:(b+1) < ((segs t).getD 0 0):=(by simpa using h7)
(by rw [o_gap h1 (by omega) h4 (by omega) (by omega)]),
 fun h7=>have h7:¬ (b+1) < ((segs t).getD 0 0):=(by simpa using h7)
(by rw [o_ok h1 (by omega) h4 (by omega)])⟩⟩⟩,
 fun h6=>have h6:¬ 0 < ((segs t).length:Int):=(by simpa using h6)
(by rw [o_ok h1 (by omega) h4 (by omega)])⟩⟩⟩⟩⟩,
 fun h1=>(by rw [o_arg (.inl h1)])⟩)
end Go.Proofs.YtalhdalinpdanaaGreatDoor.wal
