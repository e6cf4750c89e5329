/-
  Contracts of package disk at disks without a fuse, that read in every later world.
-/
import Derived.Test.YtaognhkjojkbbaaDiskMath2
import Derived.Test.YtaognhkjojkbbaaDiskImpl
import Derived.Test.YtaognhkjojkbbaaDiskRef4
import Derived.Test.YtaognhkjojkbbaaDiskBegins
import Derived.Test.YtaognhkjojkbbaaGiven
namespace Go.Proofs.Ytaognhkjojkbbaa.disk
open Go.RowKit
set_option linter.unusedVariables false

/-- such a disk's files, from A on, in all later worlds. -/
def At (w : World) (A : Option Addr) (n c : Nat) (fs : List FileD) (room : Int) : Prop :=
  FilesIn w (Lt w.heap.size) A fs ∧ fs.length = n ∧ n ≤ c ∧ c ≤ maxLen ∧ Plain ⟨fs, room, -1, false⟩
section
variable {w W : World} {A : Option Addr} {n c : Nat} {fs : List FileD} {room : Int}
theorem At.later (h : At w A n c fs room) (hb : Below w.heap.size w W) : At W A n c fs room := by
  obtain ⟨h1, h2, h3, h4, h5⟩ := h
  exact ⟨(h1.below (fun _ h => h) hb).more (fun b h => Nat.lt_of_lt_of_le h hb.size), h2, h3, h4, h5⟩
theorem out_lt {w w' : World} {A : Option Addr} {fs : List FileD} (h : FilesIn w' (Out (Lt w.heap.size) w w') A fs) (hs : w.heap.size ≤ w'.heap.size) : FilesIn w' (Lt w'.heap.size) A fs :=
  h.more (fun b hb => by
    rcases hb with hb | ⟨_, hb⟩
    · exact Nat.lt_of_lt_of_le hb hs
    · exact hb)
theorem plain_one {d : DiskD} (h : Plain d) (a b : ByteArray) (pre : Int) (fs : List FileD) (app : Bool) : ∃ gs x, opD d a b pre fs app = (⟨gs, d.room, -1, false⟩, x) := by
  rw [plain_op h]
  obtain ⟨fs0, room0, fuse0, down0⟩ := d
  obtain ⟨_, h2, h3⟩ := h
  simp only at h2 h3
  subst h2 h3
  split
  · split
    · exact ⟨_, _, rfl⟩
    · exact ⟨_, _, rfl⟩
  · exact ⟨_, _, rfl⟩
theorem plain_append (h : Plain ⟨fs, room, -1, false⟩) (nm : ByteArray) (b : List Nat) : ∃ gs x, appendD ⟨fs, room, -1, false⟩ nm b = (⟨gs, room, -1, false⟩, x) ∧ Plain ⟨gs, room, -1, false⟩ := by
  obtain ⟨gs, x, he⟩ := plain_one h nm nm (appE ⟨fs, room, -1, false⟩ nm b) (appF fs nm b) true
  have hr := right_append (nm := nm) (b := b) h.1
  unfold appendD at hr ⊢
  rw [he] at hr
  exact ⟨gs, x, he, hr, rfl, rfl⟩
theorem plain_rename (h : Plain ⟨fs, room, -1, false⟩) (a b : ByteArray) : ∃ gs x, renameD ⟨fs, room, -1, false⟩ a b = (⟨gs, room, -1, false⟩, x) ∧ Plain ⟨gs, room, -1, false⟩ := by
  obtain ⟨gs, x, he⟩ := plain_one h a b (noE fs a) (renF fs a b) false
  have hr := right_rename (a := a) (b := b) h.1
  unfold renameD at hr ⊢
  rw [he] at hr
  exact ⟨gs, x, he, hr, rfl, rfl⟩
theorem plain_cut (h : Plain ⟨fs, room, -1, false⟩) (nm : ByteArray) (k : Int) : ∃ gs x, cutD ⟨fs, room, -1, false⟩ nm k = (⟨gs, room, -1, false⟩, x) ∧ Plain ⟨gs, room, -1, false⟩ := by
  obtain ⟨gs, x, he⟩ := plain_one h nm nm (cutE fs nm k) (cutF fs nm k) false
  have hr := right_cut (nm := nm) (n := k) h.1
  unfold cutD at hr ⊢
  rw [he] at hr
  exact ⟨gs, x, he, hr, rfl, rfl⟩

/-- what comes of an operation: a disk without a fuse, and a number. -/
def PlainOut (gs : List FileD) (room x : Int) (W : World) (e : Ending) (w' : World) : Prop :=
  ∃ A n c, e = .returned (.tuple #[.agg #[.slice A n c, .int .i64 room, .int .i64 (-1), .bool false], .int .i64 x]) ∧ At w' A n c gs room ∧ Below W.heap.size W w'
theorem plain_ret {gs : List FileD} {x : Int} {S : Nat → Prop} {e : Ending} {w' : World} (hp : Plain ⟨gs, room, -1, false⟩) (h : RetOp (Lt W.heap.size) W (⟨gs, room, -1, false⟩, x) e w') : PlainOut gs room x W e w' := by
  obtain ⟨A, n, c, rfl, h1, h2, h3, h4, h5⟩ := h
  exact ⟨A, n, c, rfl, ⟨out_lt h1 h5.size, h2.out, h3, h4, hp⟩, h5⟩
theorem at_room (h : At w A n c fs room) : inI room := right_room h.2.2.2.2.1
theorem at_short (h : At w A n c fs room) : shortB fs = true := right_short h.2.2.2.2.1
theorem append_at (h : At w A n c fs room) (hb : Below w.heap.size w W) {nm : ByteArray} (hnm : nm.size ≤ 100) {B : Nat} {Ab : Option Addr} {nb cb : Nat} {bs : List Nat} (hy : Bys W B Ab bs) (hB : B ≤ W.heap.size) (hbn : bs.length = nb) (hbc : nb ≤ cb) (hbm : cb ≤ maxLen) (hbl : nb ≤ 70000) {gs : List FileD} {x : Int}
    (hv : appendD ⟨fs, room, -1, false⟩ nm bs = (⟨gs, room, -1, false⟩, x)) (hp : Plain ⟨gs, room, -1, false⟩) :
    Calls Try.prog 16 #[.agg #[.slice A n c, .int .i64 room, .int .i64 (-1), .bool false], .string nm, .slice Ab nb cb] W (PlainOut gs room x W) := by
  have h' := h.later hb
  obtain ⟨h1, h2, h3, h4, h5⟩ := h'
  exact (dappend A n c room (-1) false nm Ab nb cb bs fs _ (Lt W.heap.size) W (fun _ h => h) h1 h2 h3 h4 (at_room h) (by unfold inI; omega) (at_short h) hnm (Bys.in_ (hy.more hB) (fun _ h => h)) hbn hbc hbm hbl hv).mono (fun e w' hr => plain_ret (S := fun _ => False) hp hr)
theorem rename_at (h : At w A n c fs room) (hb : Below w.heap.size w W) {na nb : ByteArray} (hna : na.size ≤ 100) (hnb : nb.size ≤ 100) {gs : List FileD} {x : Int}
    (hv : renameD ⟨fs, room, -1, false⟩ na nb = (⟨gs, room, -1, false⟩, x)) (hp : Plain ⟨gs, room, -1, false⟩) :
    Calls Try.prog 20 #[.agg #[.slice A n c, .int .i64 room, .int .i64 (-1), .bool false], .string na, .string nb] W (PlainOut gs room x W) := by
  have h' := h.later hb
  obtain ⟨h1, h2, h3, h4, h5⟩ := h'
  exact (drename A n c room (-1) false na nb fs _ (Lt W.heap.size) W (fun _ h => h) h1 h2 h3 h4 (at_room h) (by unfold inI; omega) (at_short h) hna hnb hv).mono (fun e w' hr => plain_ret (S := fun _ => False) hp hr)
theorem cut_at (h : At w A n c fs room) (hb : Below w.heap.size w W) {nm : ByteArray} (hnm : nm.size ≤ 100) {k : Int} (hk : inI k) {gs : List FileD} {x : Int}
    (hv : cutD ⟨fs, room, -1, false⟩ nm k = (⟨gs, room, -1, false⟩, x)) (hp : Plain ⟨gs, room, -1, false⟩) :
    Calls Try.prog 24 #[.agg #[.slice A n c, .int .i64 room, .int .i64 (-1), .bool false], .string nm, .int .i64 k] W (PlainOut gs room x W) := by
  have h' := h.later hb
  obtain ⟨h1, h2, h3, h4, h5⟩ := h'
  exact (dcut A n c room (-1) false nm k fs _ (Lt W.heap.size) W (fun _ h => h) h1 h2 h3 h4 (at_room h) (by unfold inI; omega) (at_short h) hnm hk hv).mono (fun e w' hr => plain_ret (S := fun _ => False) hp hr)
/-- what comes of Read: bytes, and a number. -/
def BytesOut (bs : List Nat) (x : Int) (W : World) (e : Ending) (w' : World) : Prop :=
  ∃ A n c, e = .returned (.tuple #[.slice A n c, .int .i64 x]) ∧ Bys w' w'.heap.size A bs ∧ bs.length = n ∧ n ≤ c ∧ c ≤ maxLen ∧ Below W.heap.size W w'
theorem read_at (h : At w A n c fs room) (hb : Below w.heap.size w W) {nm : ByteArray} (hnm : nm.size ≤ 100) {bs : List Nat} {x : Int} (hv : readD ⟨fs, room, -1, false⟩ nm = (bs, x)) :
    Calls Try.prog 26 #[.agg #[.slice A n c, .int .i64 room, .int .i64 (-1), .bool false], .string nm] W (BytesOut bs x W) := by
  have h' := h.later hb
  obtain ⟨h1, h2, h3, h4, h5⟩ := h'
  refine (dread A n c room (-1) false nm fs _ (Lt W.heap.size) W (fun _ h => h) h1 h2 h3 h4 (at_room h) (by unfold inI; omega) (at_short h) hnm hv).mono ?_
  rintro e w' ⟨A', n', c', rfl, k1, k2, k3, k4, k5⟩
  exact ⟨A', n', c', rfl, BysIn.bys k1 (fun b hb => by
    rcases hb with hb | ⟨_, hb⟩
    · exact Nat.lt_of_lt_of_le hb k5.size
    · exact hb), k2.out, k3, k4, k5⟩
theorem same_at {w2 : World} {A2 : Option Addr} {n2 c2 : Nat} (h : At w A n c fs room) (hb : Below w.heap.size w W) (h2 : At w2 A2 n2 c2 fs room) (hb2 : Below w2.heap.size w2 W) :
    Calls Try.prog 31 #[.agg #[.slice A n c, .int .i64 room, .int .i64 (-1), .bool false], .agg #[.slice A2 n2 c2, .int .i64 room, .int .i64 (-1), .bool false]] W fun e w' => e = .returned (.bool true) ∧ Below W.heap.size W w' := by
  have h' := h.later hb
  have h2' := h2.later hb2
  obtain rfl : n = n2 := by rw [← h.2.1, ← h2.2.1]
  exact rsame_yes A A2 n c c2 W.heap.size room (-1) false fs W (Nat.le_refl _) h'.1 h2'.1 h'.2.1 (Nat.le_trans h'.2.2.1 h'.2.2.2.1)
end
theorem cells4 {w : World} {g : Nat} {T : TypeId} {v0 v1 v2 v3 : Value} (h : w.heap[g]? = some (.cells #[v0, v1, v2, v3] T (0, 0))) : w.cell? ⟨g, 0, none⟩ = some v0 ∧ w.cell? ⟨g, 1, none⟩ = some v1 ∧ w.cell? ⟨g, 2, none⟩ = some v2 ∧ w.cell? ⟨g, 3, none⟩ = some v3 ∧ g < w.heap.size :=
  ⟨(block_cell h 0 v0 rfl).1, (block_cell h 1 v1 rfl).1, (block_cell h 2 v2 rfl).1, (block_cell h 3 v3 rfl).1, cell_block (block_cell h 0 v0 rfl).1⟩
/-- the step of an append whose run is known, in a region that draws its order. -/
theorem step_append_runG {P : Program} {ops : Array Oper} {o : Oper} {a : Act} {w : World} {K : Act → World → Prop} {Q : Exit → Act → World → Prop} {E : Prop}
    (hw : Region.wanted o (yielded ops a.tmps) = true) (s x : Operand) (t : TypeId) (hop : o.op = Op.call { callee := Callee.builtin Builtin.append, args := #[s, x], argTypes := #[t, t] })
    (v u : Value) (hs : a.eval s = v) (hx : a.eval x = u) {v' : Value} {w' : World} (hr : (Builtin.append_ #[t, t] o.type #[v, u]).run P w = .ok v' w') (hK : K (a.put o.dst v') w') :
    if Region.wanted o (yielded ops a.tmps) = true then Oper.wp P o a w K Q else E := by
  rw [if_pos hw]
  unfold Oper.wp
  simp [execOp, hop, resolve, invoke, builtin, hs, hx, hr, Result.andThen]
  exact hK
theorem run_append_by {P : Program} {w : World} (base : Nat) (t ty e : TypeId) (ht : P.underlying t = some (.slice e))
    (hinfo : (P.info? e).map (fun i => (i.zero, i.size, i.bytes)) = some (some (.int .u8 0), 1, 1))
    {A : Option Addr} {n c : Nat} {xs : List Nat} (hown : OwnBys w base e A n c xs) {B : Nat} {A2 : Option Addr} {m c2 : Nat} {ys : List Nat} (hr : Bys w B A2 ys) (hm : ys.length = m)
    (h63 : n + m ≤ 140737488355328) (hbase : base ≤ w.heap.size) :
    ∃ A' c' w', (Builtin.append_ #[t, t] ty #[.slice A n c, .slice A2 m c2]).run P w = .ok (.slice A' (n + m) c') w' ∧ OwnBys w' base e A' (n + m) c' (xs ++ ys) ∧ w.grownBy w' (Value.slice A n c).ownBlock ∧
      ((Value.slice A' (n + m) c').ownBlock = (Value.slice A n c).ownBlock ∨ (Value.slice A' (n + m) c').ownBlock = some w.heap.size) := by
  have hown' : OwnInts w base e .u8 A n c (toI xs) := hown
  have hr' : Ints .u8 w B A2 (toI ys) := hr
  have hl : (toI ys).length = m := by rw [toI_len]; exact hm
  have h1 : n + m ≤ maxLen := Nat.le_trans h63 (by decide)
  have h2 : (n + m) * 1 ≤ 140737488355328 := by rw [Nat.mul_one]; exact h63
  have key := run_append_ints (P := P) (w := w) base t ty e .u8 1 ht hinfo hown' hr' (c2 := c2) hl h1 h2 hbase
  obtain ⟨A', c', w', k1, k2, k3, k4⟩ := key
  have k5 : OwnBys w' base e A' (n + m) c' (xs ++ ys) := by unfold OwnBys; rw [toI_append]; exact k2
  exact ⟨A', c', w', k1, k5, k3, k4⟩
theorem ownNewB {w : World} {base : Nat} (hb : base ≤ w.heap.size) : OwnBys (w.alloc (.cells #[] 5)) base 5 (some ⟨w.heap.size, 0, none⟩) 0 0 [] :=
  OwnBys.new hb [] rfl (by simp) rfl (Nat.zero_le _)
/-- files that read out of all blocks but one. -/
def Sans (g : Nat) (W : World) (A : Option Addr) (fs : List FileD) : Prop := FilesIn W (fun b => b < W.heap.size ∧ b ≠ g) A fs
theorem sans_out {g : Nat} {W W7 : World} {A : Option Addr} {fs : List FileD} (h : FilesIn W7 (Out (Off [g] W) W W7) A fs) (hg : g < W.heap.size) (hs : W.heap.size ≤ W7.heap.size) : Sans g W7 A fs :=
  FilesIn.more h (fun b hb => by
    rcases hb with hb | ⟨h1, h2⟩
    · exact ⟨Nat.lt_of_lt_of_le hb.1 hs, fun e => hb.2 (by simp [e])⟩
    · exact ⟨h2, by omega⟩)
theorem sans_new {W : World} {A : Option Addr} {fs : List FileD} (h : FilesIn W (Lt W.heap.size) A fs) (o : Obj) : Sans W.heap.size (W.alloc o) A fs :=
  FilesIn.more (FilesIn.below h (fun _ h => h) ((Below.refl _ _).alloc (Nat.le_refl _) o)) (fun b hb => ⟨by have : b < W.heap.size := hb; simp; omega, Nat.ne_of_lt hb⟩)
theorem sans_set {g : Nat} {W : World} {A : Option Addr} {fs : List FileD} (h : Sans g W A fs) (v0 v1 v2 v3 : Value) :
    FilesIn ((((W.setCell ⟨g, 0, none⟩ v0).setCell ⟨g, 1, none⟩ v1).setCell ⟨g, 2, none⟩ v2).setCell ⟨g, 3, none⟩ v3) (Lt ((((W.setCell ⟨g, 0, none⟩ v0).setCell ⟨g, 1, none⟩ v1).setCell ⟨g, 2, none⟩ v2).setCell ⟨g, 3, none⟩ v3).heap.size) A fs :=
  Elems.keep keeps_file h (alike_set4 (fun hb => hb.2 rfl) v0 v1 v2 v3) (fun b hb => by show b < _; rw [size_set4]; exact hb.1)
theorem own_sans {W : World} {base g n c : Nat} {T : TypeId} {A : Option Addr} {bs : List Nat} (h : OwnBys W base T A n c bs) (hne : ∀ x, (Value.slice A n c).ownBlock = some x → x ≠ g) : BysIn W (Off [g] W) A bs := by
  have hb := OwnBys.bys h
  refine ⟨hb.1, fun hn => ?_⟩
  have hl := OwnInts.len h
  obtain ⟨g', x, hA, h1, h2, _⟩ := OwnInts.at_ h (j := 0) (by omega)
  obtain ⟨b, off, e, hlt, hc⟩ := hb.2 hn
  subst hA
  injection e with e
  injection e with e
  subst e
  exact ⟨g', off, by rename_i e2; simp_all, ⟨hlt, fun hm => by simp at hm; exact hne g' rfl hm⟩, hc⟩
theorem append_off {w W : World} {A : Option Addr} {n c : Nat} {fs : List FileD} {room : Int} (h : At w A n c fs room) (hb : Below w.heap.size w W) {g : Nat} (hg1 : w.heap.size ≤ g) (hg2 : g < W.heap.size) {nm : ByteArray} (hnm : nm.size ≤ 100) {Ab : Option Addr} {nb cb : Nat} {bs : List Nat} (hy : BysIn W (Off [g] W) Ab bs) (hbn : bs.length = nb) (hbc : nb ≤ cb) (hbm : cb ≤ maxLen) (hbl : nb ≤ 70000) {gs : List FileD} {x : Int}
    (hv : appendD ⟨fs, room, -1, false⟩ nm bs = (⟨gs, room, -1, false⟩, x)) :
    Calls Try.prog 16 #[.agg #[.slice A n c, .int .i64 room, .int .i64 (-1), .bool false], .string nm, .slice Ab nb cb] W fun e w' =>
      ∃ A n c, e = .returned (.tuple #[.agg #[.slice A n c, .int .i64 room, .int .i64 (-1), .bool false], .int .i64 x]) ∧ Sans g w' A gs ∧ gs.length = n ∧ n ≤ c ∧ c ≤ maxLen ∧ Below W.heap.size W w' := by
  have hf := FilesIn.given (own := [g]) h.1 hb (by simpa using hg1)
  refine (dappend A n c room (-1) false nm Ab nb cb bs fs _ (Off [g] W) W Off.lt hf h.2.1 h.2.2.1 h.2.2.2.1 (at_room h) (by unfold inI; omega) (at_short h) hnm hy hbn hbc hbm hbl hv).mono ?_
  rintro e w' ⟨A', n', c', rfl, k1, k2, k3, k4, k5⟩
  exact ⟨A', n', c', rfl, sans_out k1 hg2 k5.size, k2.out, k3, k4, k5⟩
theorem own_ne {w : World} {A A' : Option Addr} {n c n' c' g : Nat} (h : ∀ x, (Value.slice A n c).ownBlock = some x → x ≠ g) (hg : g < w.heap.size) (h2 : (Value.slice A' n' c').ownBlock = (Value.slice A n c).ownBlock ∨ (Value.slice A' n' c').ownBlock = some w.heap.size) :
    ∀ x, (Value.slice A' n' c').ownBlock = some x → x ≠ g := fun x hx => by
  rcases h2 with h2 | h2
  · exact h x (by rw [← h2]; exact hx)
  · rw [h2] at hx; injection hx with hx; omega
end Go.Proofs.Ytaognhkjojkbbaa.disk
