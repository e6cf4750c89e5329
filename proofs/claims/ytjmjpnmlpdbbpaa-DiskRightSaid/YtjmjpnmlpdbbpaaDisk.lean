/-
  Plain words for layer 3: files and disks as lists, and how cells read as these.
-/
import Derived.Test.YtjmjpnmlpdbbpaaRead
namespace Go.Proofs.Ytjmjpnmlpdbbpaa
open Go.RowKit
set_option linter.unusedVariables false

structure FileD where
  name : ByteArray
  data : List Nat
  sure : Int

structure DiskD where
  files : List FileD
  room : Int
  fuse : Int
  down : Bool

def rdFile : Rd FileD := fun w S cs f => ∃ A n c, cs = [.string f.name, .slice A n c, .int .i64 f.sure] ∧ f.name.size ≤ maxLen ∧ BysIn w S A f.data ∧ f.data.length = n ∧ n ≤ c ∧ c ≤ maxLen ∧ (Lit.int .i64 f.sure).wf = true
abbrev FilesIn (w : World) (S : Nat → Prop) (A : Option Addr) (fs : List FileD) : Prop := Elems rdFile 3 w S A fs
abbrev Files (w : World) (B : Nat) (A : Option Addr) (fs : List FileD) : Prop := Elems rdFile 3 w (Lt B) A fs
def rdDisk : Rd DiskD := fun w S cs d => ∃ A n c, cs = [.slice A n c, .int .i64 d.room, .int .i64 d.fuse, .bool d.down] ∧ FilesIn w S A d.files ∧ d.files.length = n ∧ n ≤ c ∧ c ≤ maxLen ∧ (Lit.int .i64 d.room).wf = true ∧ (Lit.int .i64 d.fuse).wf = true

theorem keeps_file : Keeps rdFile := fun _ _ _ _ _ _ ⟨A, n, c, e, h1, h2, r⟩ hc hS => ⟨A, n, c, e, h1, IntsIn.keep h2 hc hS, r⟩
theorem keeps_disk : Keeps rdDisk := fun _ _ _ _ _ _ ⟨A, n, c, e, h1, r⟩ hc hS => ⟨A, n, c, e, Elems.keep keeps_file h1 hc hS, r⟩
theorem leaf_file : Leaf rdFile := fun _ _ _ _ ⟨_, _, _, h, _⟩ c hc => by
  rw [h] at hc
  simp at hc
  rcases hc with rfl | rfl | rfl <;> rfl
theorem Files.below {w w' : World} {B : Nat} {A : Option Addr} {fs : List FileD} (h : Files w B A fs) (hb : Below B w w') : Files w' B A fs := Elems.keep keeps_file h (below_alike hb) (fun _ h => h)
theorem Files.more {w : World} {B B' : Nat} {A : Option Addr} {fs : List FileD} (h : Files w B A fs) (hb : B ≤ B') : Files w B' A fs := Elems.keep keeps_file h (alike_refl _ _) (fun _ h => Nat.lt_of_lt_of_le h hb)
theorem Files.nil (w : World) (S : Nat → Prop) (A : Option Addr) : FilesIn w S A [] := fun h => absurd h (by simp)

/-- what one of the files is, cell by cell. -/
theorem Files.at_ {w : World} {B : Nat} {A : Option Addr} {fs : List FileD} (h : Files w B A fs) {j : Nat} (hj : j < fs.length) :
    ∃ b off f A' n c, A = some ⟨b, off, none⟩ ∧ b < B ∧ Hid (fs[j]? = some f) ∧ w.cell? ⟨b, off + j * 3, none⟩ = some (.string f.name) ∧ w.cell? ⟨b, off + j * 3 + 1, none⟩ = some (.slice A' n c) ∧ w.cell? ⟨b, off + j * 3 + 2, none⟩ = some (.int .i64 f.sure) ∧
      f.name.size ≤ maxLen ∧ Bys w B A' f.data ∧ Hid (f.data.length = n) ∧ n ≤ c ∧ c ≤ maxLen ∧ inI f.sure := by
  obtain ⟨b, off, e, hb, hc⟩ := h (by omega)
  obtain ⟨cs, hl, hcs, A', n, c, rfl, h1, h2, h3, h4, h5, h6⟩ := hc j fs[j] (List.getElem?_eq_getElem hj)
  exact ⟨b, off, fs[j], A', n, c, e, hb, Lib.hid (List.getElem?_eq_getElem hj), hcs 0 _ rfl, hcs 1 _ rfl, hcs 2 _ rfl, h1, ints_in.2 h2, Lib.hid h3, h4, h5, inI_of_wf h6⟩

namespace disk
/-- may a sign stand in a name? -/
def signOk (c : UInt8) : Bool := !((decide ((c.toNat : Int) < 97) || decide (122 < (c.toNat : Int))) && (decide ((c.toNat : Int) < 48) || decide (57 < (c.toNat : Int))) && ((c.toNat : Int) != 46))
/-- may a name be? -/
def named (s : ByteArray) : Bool := s.data.toList.all signOk && decide (0 < s.size) && decide (s.size ≤ 16)
/-- two names are one. -/
def sameName (a b : ByteArray) : Bool := a.toList == b.toList
/-- a name is not greater than another one. -/
def upTo (a b : ByteArray) : Bool := Op.bytesLess a.toList b.toList || a.toList == b.toList
def used (fs : List FileD) : Nat := (fs.map fun f => f.data.length).sum
/-- where a file stands. -/
def findFrom (nm : ByteArray) : List FileD → Nat → Option Nat
  | [], _ => none
  | f :: r, k => if sameName f.name nm then some k else findFrom nm r (k + 1)
def findI (fs : List FileD) (nm : ByteArray) : Int := match findFrom nm fs 0 with
  | some k => (k : Int)
  | none => -1
/-- may a file be, all but its place? -/
def fileOk (f : FileD) : Bool := named f.name && decide (0 ≤ f.sure) && decide (f.sure ≤ (f.data.length : Int)) && decide (f.data.length ≤ 65536)
def goodFrom : Option ByteArray → List FileD → Bool
  | _, [] => true
  | p, f :: r => fileOk f && (match p with | none => true | some q => !upTo f.name q) && goodFrom (some f.name) r
def prevName (fs : List FileD) : Nat → Option ByteArray
  | 0 => none
  | k + 1 => (fs[k]?).map (·.name)
def rightB (d : DiskD) : Bool := decide (0 ≤ d.room) && decide (d.room ≤ 65536) && decide (-1 ≤ d.fuse) && decide (d.files.length ≤ 64) && goodFrom none d.files && decide ((used d.files : Int) ≤ d.room)
/-- all files but that one. -/
def sans (nm : ByteArray) (fs : List FileD) : List FileD := fs.filter fun f => !sameName f.name nm
def shortFile (f : FileD) : Bool := decide (f.data.length ≤ 70000) && decide (f.name.size ≤ 100)
/-- a disk that is not too much for a look. -/
def shortB (fs : List FileD) : Bool := decide (fs.length ≤ 70) && fs.all shortFile && decide (used fs ≤ 70000)
/-- the first error. -/
def firstE (d : DiskD) (a b : ByteArray) : Int := if rightB d then (if d.down then 9 else if named a && named b then 0 else 1) else 1
/-- the disk behind an operation's power, and whether it was there. -/
def powerD (d : DiskD) : DiskD × Bool := if d.fuse = 0 then ({ d with down := true }, false) else if 0 < d.fuse then ({ d with fuse := d.fuse - 1 }, true) else (d, true)
/-- a name is not less than another one. -/
def atLeast (a b : ByteArray) : Bool := !Op.bytesLess a.toList b.toList
/-- the file comes to its place among those that are left, if it is not put already. -/
def putFrom (f : FileD) : List FileD → Bool → List FileD
  | [], put => if put then [] else [f]
  | g :: r, put => (if !put && atLeast g.name f.name then [f] else []) ++ ((if sameName g.name f.name then [] else [g]) ++ putFrom f r (put || atLeast g.name f.name))
def withF (f : FileD) (fs : List FileD) : List FileD := putFrom f fs false
end disk

end Go.Proofs.Ytjmjpnmlpdbbpaa
